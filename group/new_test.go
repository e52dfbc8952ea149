package group_test

import (
	"fmt"
	"math"
	"strings"
	"testing"

	"federation/api"
	"federation/group"
	"federation/raft"
)

func TestNew(t *testing.T) {
	for size := 1; size <= 5; size++ {
		g := group.New(size)
		if g.Leader() != -1 || g.Flight() != 0 {
			t.Errorf("P901: New(%d): leader %d, %d fly", size, g.Leader(), g.Flight())
		}
		for id := range size {
			if n := node(t, g, id); !g.Up(id) || len(g.Applied(id)) != 0 || said(n) != said(raft.New(id, size, 1)) {
				t.Errorf("P901: New(%d): node %d is %s", size, id, said(n))
			}
		}
		for _, id := range []int{math.MinInt, -size, -1, size, size + 1, 5, 6, math.MaxInt} {
			isNone(t, g, id)
		}
		for _, at := range []int{math.MinInt, -1, 0, 1, math.MaxInt} {
			changedNothing(t, g, size, fmt.Sprintf("d%d x%d w%d", at, at, at))
		}
	}
}

// isNone holds that there is no such node, whatever is asked of it.
func isNone(t *testing.T, g *group.Group, id int) {
	t.Helper()
	n, is := g.Node(id)
	if is || said(n) != said(api.Node{}) || g.Up(id) || len(g.Applied(id)) != 0 {
		t.Errorf("P901: node %d: %v, %s", id, is, said(n))
	}
	changedNothing(t, g, 5, strings.ReplaceAll("tN*20 pN:a pN: cN sN uN sN", "N", fmt.Sprint(id)))
}

// A group of a size that may not be has no nodes (P1, P9).
func TestNewOfWrongSizes(t *testing.T) {
	for _, size := range []int{math.MinInt, -5, -1, 0, 6, 7, 1 << 40, math.MaxInt} {
		g := group.New(size)
		for _, id := range []int{math.MinInt, -1, 0, 1, 5, size - 1, size, math.MaxInt} {
			isNone(t, g, id)
		}
		changedNothing(t, g, 6, "d0 x0 w0 d-1 x1 w5")
		if g.Leader() != -1 || g.Flight() != 0 {
			t.Errorf("P901: New(%d): leader %d, %d fly", size, g.Leader(), g.Flight())
		}
	}
}

// Nor has one that was not made by New.
func TestNoGroup(t *testing.T) {
	g := &group.Group{}
	isNone(t, g, 0)
	changedNothing(t, g, 5, "d0 x0 w0")
	if g.Leader() != -1 || g.Flight() != 0 {
		t.Errorf("P1: leader %d, %d fly", g.Leader(), g.Flight())
	}
}

// The chapter's example.
func TestExample(t *testing.T) {
	if at := group.New(3).Leader(); at != -1 {
		t.Errorf("Leader of a new one: %d", at)
	}
}

func TestTick(t *testing.T) {
	for size := 1; size <= 5; size++ {
		for id := range size {
			g, n := group.New(size), raft.New(id, size, 1)
			sent := 0
			for range 40 {
				var l []api.Msg
				n, l = raft.Tick(n)
				sent += len(l)
				g.Tick(id)
				if got := node(t, g, id); said(got) != said(n) || g.Flight() != sent {
					t.Fatalf("P901: Tick: %d fly, not %d:\n%s\n%s", g.Flight(), sent, said(got), said(n))
				}
			}
			for other := range size {
				if other != id && said(node(t, g, other)) != said(raft.New(other, size, 1)) {
					t.Errorf("P901: Tick of %d touches %d", id, other)
				}
			}
		}
	}
}

func TestPropose(t *testing.T) {
	for size := 1; size <= 5; size++ {
		g := group.New(size)
		for id := range size {
			changedNothing(t, g, size, fmt.Sprintf("p%d:a p%d:", id, id))
		}
		script(g, fmt.Sprintf("t0*5 d0*%d", size-1)) // whoever asks for votes is no Leader yet, but of one
		if size > 1 {
			changedNothing(t, g, size, "p0:a")
		}
		g = after(size, leads0(size))
		for id := 1; id < size; id++ {
			changedNothing(t, g, size, fmt.Sprintf("p%d:a p%d:", id, id))
		}
		for k, data := range []string{"a", "", "b", "\x00\xff", strings.Repeat("long", 3000)} {
			n, l, _ := raft.Propose(node(t, g, 0), data)
			fly(t, g, k*(size-1))
			if !g.Propose(0, data) || said(node(t, g, 0)) != said(n) || len(l) != size-1 {
				t.Errorf("P901: Propose %d:\n%s\n%s", k, said(node(t, g, 0)), said(n))
			}
		}
		fly(t, g, 5*(size-1))
	}
}
