package group_test

import (
	"fmt"
	"slices"
	"testing"

	"federation/api"
	"federation/group"
)

func leader(t *testing.T, g *group.Group, want int) {
	t.Helper()
	if got := g.Leader(); got != want {
		t.Errorf("P901: %d leads, not %d", got, want)
	}
}

// wins lets a node lead by the votes of some, while the others hear nothing of it.
func wins(t *testing.T, g *group.Group, size, id int, votes ...int) {
	t.Helper()
	for g.Drop(0) {
	}
	for k := 0; k < 100 && g.Flight() == 0; k++ {
		g.Tick(id)
	}
	at := 0
	for to := range size {
		if slices.Contains(votes, to) {
			at++
		} else if to != id {
			g.Drop(at)
		}
	}
	for range 2 * len(votes) {
		g.Deliver(0)
	}
	for g.Drop(0) {
	}
	if n := node(t, g, id); n.Role != api.Leader {
		t.Fatalf("P901: %d does not lead: %s", id, said(n))
	}
}

// several is a group of five in which a, b and c take themselves for Leaders, each in a later Term.
func several(t *testing.T, a, b, c int) *group.Group {
	t.Helper()
	var rest []int
	for id := range 5 {
		if id != a && id != b && id != c {
			rest = append(rest, id)
		}
	}
	g := group.New(5)
	wins(t, g, 5, a, b, rest[0])
	leader(t, g, a)
	wins(t, g, 5, b, c, rest[0])
	leader(t, g, b)
	wins(t, g, 5, c, rest...)
	return g
}

// threes are all three nodes of five, in each order.
func threes() [][3]int {
	var l [][3]int
	for k := range 125 {
		a, b, c := k/25, k/5%5, k%5
		if a != b && b != c && c != a {
			l = append(l, [3]int{a, b, c})
		}
	}
	return l
}

// Of several Leaders the one of the greatest Term is told, whatever their numbers; one that has fallen is none.
func TestLeaderOfSeveral(t *testing.T) {
	for _, l := range threes() {
		for set := range 8 { // which of them fall
			g, want := several(t, l[0], l[1], l[2]), -1
			for i, id := range l {
				if n := node(t, g, id); n.Role != api.Leader || n.Term != i+1 {
					t.Fatalf("P901: %v: %s", l, said(n))
				}
				if set>>i&1 == 1 {
					g.Crash(id)
				} else {
					want = id
				}
			}
			leader(t, g, want)
			if want >= 0 && !g.Propose(want, "a") {
				t.Errorf("P901: %v: %d leads, and does not propose", l, want)
			}
			for _, id := range l {
				g.Start(id, 1)
			}
			leader(t, g, want) // who starts again leads no more
		}
	}
}

// All who take themselves for Leaders are handed data, too; what a majority does not have is not applied (T3).
func TestProposeToSeveral(t *testing.T) {
	for _, l := range threes() {
		g := several(t, l[0], l[1], l[2])
		for _, id := range l {
			if !g.Propose(id, fmt.Sprint("of", id)) {
				t.Errorf("P901: %v: %d does not propose", l, id)
			}
		}
		for range 500 {
			g.Deliver(0)
		}
		leader(t, g, l[2])
		quiet(g, 5, 30)
		for id := range 5 {
			applied(t, g, id, fmt.Sprint("of", l[2]))
		}
	}
}

// A Candidate is none yet, and a Leader that hears of a greater Term is none any more.
func TestLeaderNoMore(t *testing.T) {
	for size := 1; size <= 5; size++ {
		g := group.New(size)
		script(g, "t0*4")
		leader(t, g, -1)
		script(g, "t0")
		if size == 1 {
			leader(t, g, 0)
			continue
		}
		leader(t, g, -1)
		script(g, fmt.Sprintf("d0*%d", 2*size))
		leader(t, g, 0)
		last := size - 1
		for g.Drop(0) {
		}
		script(g, fmt.Sprintf("t%d*40", last)) // so long that it is of a Term of its own
		leader(t, g, 0)
		script(g, "d0")
		leader(t, g, -1)
		if n := node(t, g, 0); n.Role != api.Follower || n.Term < 2 {
			t.Errorf("P901: %s", said(n))
		}
	}
}
