package group_test

import (
	"fmt"
	"math"
	"slices"
	"testing"

	"federation/group"
)

// comes delivers a message, and tells what that does: which node is another one then, and as what.
func comes(t *testing.T, g *group.Group, size, at int) string {
	t.Helper()
	var before []string
	for id := range size {
		before = append(before, said(node(t, g, id)))
	}
	if !g.Deliver(at) {
		t.Fatalf("P901: no message %d", at)
	}
	trace := "-"
	for id := range size {
		if n := node(t, g, id); said(n) != before[id] {
			trace = fmt.Sprintf("node %d: term %d vote %d role %d log %d", id, n.Term, n.Vote, n.Role, len(n.Log))
		}
	}
	return trace
}

// flying is what flies behind a script, in order: of each message, what it does when it comes ahead of the others.
func flying(t *testing.T, size int, s string) []string {
	t.Helper()
	var l []string
	for at := range after(size, s).Flight() {
		l = append(l, comes(t, after(size, s), size, at))
	}
	return l
}

func flies(t *testing.T, size int, s string, want ...string) {
	t.Helper()
	if got := flying(t, size, s); !slices.Equal(got, want) {
		t.Errorf("P901: behind %s flies\n%q\nnot\n%q", s, got, want)
	}
}

const (
	asks1 = "node 1: term 1 vote 0 role 0 log 0" // node 0 asks node 1 for its vote, and gets it
	asks2 = "node 2: term 1 vote 0 role 0 log 0"
	wins0 = "node 0: term 1 vote 0 role 2 log 1" // a vote comes back, and node 0 leads
)

// What a node sends flies behind all: what its tick sends, what it answers, and what is handed to it.
func TestBehindAll(t *testing.T) {
	flies(t, 3, "t0*4")
	flies(t, 3, "t0*5", asks1, asks2)
	flies(t, 3, "t0*5 t1*7", "-", asks2, "-", "node 2: term 1 vote 1 role 0 log 0")
	flies(t, 3, "t1*7 t0*5", "-", "node 2: term 1 vote 1 role 0 log 0", "-", asks2)
	flies(t, 3, "t0*5 d0", asks2, wins0)
	flies(t, 3, "t0*5 d1", asks1, wins0)
	flies(t, 3, "t0*5 d0 d1", asks2,
		"node 1: term 1 vote 0 role 0 log 1", "node 2: term 1 vote -1 role 0 log 1")
	flies(t, 3, "t0*5 d0 d1 d0 p0:a", "node 1: term 1 vote 0 role 0 log 1", "node 2: term 1 vote 0 role 0 log 1", "-",
		"node 1: term 1 vote 0 role 0 log 2", "node 2: term 1 vote 0 role 0 log 2")
	flies(t, 3, "t0*5 d0 d1 d0 d0 p0:a", "node 2: term 1 vote 0 role 0 log 1", "-", "node 0: term 1 vote 0 role 2 log 2",
		"node 1: term 1 vote 0 role 0 log 2", "node 2: term 1 vote 0 role 0 log 2")
	flies(t, 3, "t0*5 d0 x0 d0 x0 x0 t0 t2*9", "node 1: term 1 vote 0 role 0 log 1", "node 2: term 1 vote 2 role 0 log 1",
		"-", "-") // node 2 asks in a Term in which both have voted
}

// many is a play of five in which each message does something else, or comes to another node: node 0 asks, twice.
const many = "t0*10"

func ofMany() []string {
	var l []string
	for term := 1; term <= 2; term++ {
		for id := 1; id < 5; id++ {
			l = append(l, fmt.Sprintf("node %d: term %d vote 0 role 0 log 0", id, term))
		}
	}
	return l
}

func TestMany(t *testing.T) { flies(t, 5, many, ofMany()...) }

// Drop touches that message alone.
func TestDrop(t *testing.T) {
	for at := range ofMany() {
		flies(t, 5, fmt.Sprintf("%s x%d", many, at), slices.Delete(ofMany(), at, at+1)...)
		answered(t, after(5, many), fmt.Sprintf("x%d", at), "+")
	}
	g := after(5, many)
	answered(t, g, "x7 x7 x3 x0*6 x0", "+-+++++++-")
	fly(t, g, 0)
}

// Twice touches none: the message flies where it flew, and once more behind all.
func TestTwice(t *testing.T) {
	for at, m := range ofMany() {
		flies(t, 5, fmt.Sprintf("%s w%d", many, at), append(ofMany(), m)...)
		answered(t, after(5, many), fmt.Sprintf("w%d", at), "+")
	}
	all := ofMany()
	flies(t, 5, many+" w1*3 w9", append(all, all[1], all[1], all[1], all[1])...)
	flies(t, 5, many+" w7 x7 x0 w0", append(append(all[1:7:7], all[7]), all[1])...)
}

// Neither changes a node.
func TestNodesStay(t *testing.T) {
	g, w := after(5, many), after(5, many)
	script(g, "x0*8 d0")
	script(w, "w7*8 w0")
	for id := range 5 {
		want := said(node(t, after(5, many), id))
		if said(node(t, g, id)) != want || said(node(t, w, id)) != want {
			t.Errorf("P901: node %d is another one", id)
		}
	}
}

// A message is there, or not: the last that is, and the first that is not.
func TestNoMessage(t *testing.T) {
	for size := 2; size <= 5; size++ {
		for _, s := range []string{"", "t0*5", "t0*10", leads0(size) + " p0:a p0:b"} {
			g := after(size, s)
			have := g.Flight()
			for _, at := range []int{math.MinInt, -have, -2, -1, have, have + 1, 2*have + 1, math.MaxInt} {
				changedNothing(t, g, size, fmt.Sprintf("d%d x%d w%d", at, at, at))
			}
			if have > 0 {
				answered(t, g, fmt.Sprintf("w%d x%d d%d", have-1, have, have-1), "+++")
			}
		}
	}
}

// What comes to a node that is not up is gone, and does nothing, also when the node is up again.
func TestDeliverToFallen(t *testing.T) {
	for size := 2; size <= 5; size++ {
		for id := 1; id < size; id++ {
			g := after(size, fmt.Sprintf("t0*5 c%d", id))
			before := said(node(t, g, id))
			answered(t, g, fmt.Sprintf("d%d", id-1), "+")
			fly(t, g, size-2) // it is gone, and nobody answers
			if got := said(node(t, g, id)); got != before || g.Up(id) {
				t.Errorf("P901: what is not up handles\n%s\n%s", before, got)
			}
			answered(t, g, fmt.Sprintf("s%d", id), "+")
			fly(t, g, size-2)
			if n := node(t, g, id); n.Term != 0 || n.Vote != -1 {
				t.Errorf("P901: it comes late: %s", said(n))
			}
		}
	}
	g := after(3, "t0*5 c1 c2 d0 d0")
	fly(t, g, 0)
	g = after(3, "t0*5 c1 c0 s1") // that of one that has fallen comes all the same, and to one that is up again
	if got := comes(t, g, 3, 0); got != asks1 {
		t.Errorf("P901: %s", got)
	}
	fly(t, g, 2)
	answered(t, g, "d1", "+")
	fly(t, g, 1)
	if n := node(t, g, 0); n.Role == 2 || g.Leader() != -1 {
		t.Errorf("P901: what is not up leads: %s", said(n))
	}
}

// A long line of messages keeps its order, whether it loses them at its front, its end or its middle.
func TestLongFlight(t *testing.T) {
	d := &die{47}
	for _, left := range []int{1, 2, 3, 4, 50} {
		g := group.New(2)
		var order []int // the Terms in which node 0 asks
		for term := range 300 {
			script(g, "t0*5")
			order = append(order, term+1)
		}
		for len(order) > left {
			at := []int{0, len(order) - 1, len(order) / 2, len(order)/2 - 1, d.of(len(order))}[d.of(5)]
			if d.of(4) == 0 {
				order = append(order, order[at])
				g.Twice(at)
			}
			order = slices.Delete(order, at, at+1)
			if !g.Drop(at) {
				t.Fatalf("P901: no message %d", at)
			}
			fly(t, g, len(order))
		}
		for i, term := range order {
			g.Deliver(0)
			if n := node(t, g, 1); n.Term != slices.Max(order[:i+1]) {
				t.Fatalf("P901: the message of Term %d leaves %s", term, said(n))
			}
		}
	}
}
