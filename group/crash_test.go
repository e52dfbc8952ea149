package group_test

import (
	"fmt"
	"math"
	"strings"
	"testing"

	"federation/api"
	"federation/group"
	"federation/raft"
)

// plays are plays of a group of that size, in which its nodes have come to be of all roles.
func plays(size int) []string {
	lead := leads0(size)
	return []string{
		"", "t0*3", fmt.Sprintf("t0*5 t%d*20", size-1), lead, lead + " p0:a p0: p0:b", lead + " p0:a t0 d0*4 t0 d0*2",
		lead + " p0:a c0 u0", lead + fmt.Sprintf(" c%d u%d c0", size-1, size-1),
	}
}

// Whoever is not up does nothing, whatever is asked of it, and is told as it fell.
func TestCrash(t *testing.T) {
	for size := 1; size <= 5; size++ {
		for _, s := range plays(size) {
			for id := range size {
				g := after(size, s+fmt.Sprintf(" c%d s%d", id, id)) // so that it is up
				script(g, strings.Repeat(fmt.Sprintf("t%d d0 ", id), 12))
				before, flight := node(t, g, id), g.Flight()
				answered(t, g, fmt.Sprintf("c%d", id), "+")
				if n := node(t, g, id); g.Up(id) || said(n) != said(before) || len(g.Applied(id)) != 0 || g.Leader() == id {
					t.Errorf("P901: behind %s %d fell and is %s", s, id, said(n))
				}
				fly(t, g, flight) // what it has sent flies on
				changedNothing(t, g, size, strings.ReplaceAll("cN pN:a pN: tN*20 cN", "N", fmt.Sprint(id)))
			}
		}
	}
}

// The others go on as if nothing were.
func TestCrashTouchesItsOwn(t *testing.T) {
	for size := 2; size <= 5; size++ {
		for id := range size {
			g, w := after(size, leads0(size)+" p0:a"), after(size, leads0(size)+" p0:a")
			script(g, fmt.Sprintf("c%d", id))
			for other := range size {
				if other != id && (!g.Up(other) || said(node(t, g, other)) != said(node(t, w, other))) {
					t.Errorf("P901: of %d %d falls, and %d is %s", size, id, other, said(node(t, g, other)))
				}
			}
		}
	}
}

// Start is there for whoever has fallen, with a form that is one.
func TestStart(t *testing.T) {
	for size := 1; size <= 5; size++ {
		for _, s := range plays(size) {
			for id := range size {
				for form := 1; form <= 2; form++ {
					g := after(size, s+fmt.Sprintf(" c%d", id))
					refuseStarts(t, g, size, id)
					want, flight := raft.Restart(node(t, g, id), form), g.Flight()
					if !g.Start(id, form) || !g.Up(id) || len(g.Applied(id)) != 0 || g.Leader() == id {
						t.Errorf("P901: behind %s %d does not start", s, id)
					}
					if n := node(t, g, id); said(n) != said(want) {
						t.Errorf("P901: behind %s %d starts as\n%s\nnot\n%s", s, id, said(n), said(want))
					}
					fly(t, g, flight)
					changedNothing(t, g, size, fmt.Sprintf("s%d u%d", id, id)) // it is up
					refuseStarts(t, g, size, id)
				}
			}
		}
	}
}

// refuseStarts holds that no node starts with a form that is none.
func refuseStarts(t *testing.T, g *group.Group, size, id int) {
	t.Helper()
	before := told(g, size)
	for _, form := range []int{math.MinInt, -2, -1, 0, 3, 4, math.MaxInt} {
		if g.Start(id, form) || told(g, size) != before {
			t.Fatalf("P901: %d starts with form %d", id, form)
		}
	}
}

// What lasts, and what does not, written out.
func TestStartAgain(t *testing.T) {
	g := after(3, leads0(3)+" p0:a p0:b d0*2 c0")
	n := node(t, g, 0)
	if n.Role != api.Leader || n.Term != 1 || n.Vote != 0 || len(n.Log) != 3 || n.Form != 1 || n.Clock == 0 {
		t.Errorf("P901: fallen: %s", said(n))
	}
	answered(t, g, "t0 p0:c u0 p0:d", ".-+-")
	n = node(t, g, 0)
	want := raft.New(0, 3, 2)
	want.Term, want.Vote, want.Log = 1, 0, []api.Entry{{Term: 1}, {Term: 1, Data: "a"}, {Term: 1, Data: "b"}}
	if said(n) != said(want) {
		t.Errorf("P901: started: %s", said(n))
	}
	answered(t, g, "c0 s0", "++")
	if n := node(t, g, 0); said(n) != said(want) { // no way back from form 2
		t.Errorf("P901: started again: %s", said(n))
	}
	script(g, "x0*20")
	quiet(g, 3, 20)
	for id := range 3 {
		if got := fmt.Sprint(g.Applied(id)); got != "[a b]" {
			t.Errorf("T2: %d has applied %s", id, got)
		}
	}
	if n := node(t, g, g.Leader()); g.Leader() != 0 && n.Forms[0] != 2 { // who leads hears of the form
		t.Errorf("P901: %s", said(n))
	}
}

func TestUp(t *testing.T) {
	for size := 1; size <= 5; size++ {
		g := group.New(size)
		for set := range 1 << size {
			for id := range size {
				if set>>id&1 == 1 {
					g.Crash(id)
				} else {
					g.Start(id, 1)
				}
			}
			for id := -3; id < 9; id++ {
				if want := id >= 0 && id < size && set>>id&1 == 0; g.Up(id) != want {
					t.Errorf("P901: of %d are %b down: Up(%d) is not %v", size, set, id, want)
				}
			}
		}
	}
}
