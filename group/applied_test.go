package group_test

import (
	"fmt"
	"slices"
	"strings"
	"testing"

	"federation/group"
)

func applied(t *testing.T, g *group.Group, id int, want ...string) {
	t.Helper()
	if got := g.Applied(id); !slices.Equal(got, want) {
		t.Errorf("P901: %d has applied %q, not %q", id, got, want)
	}
}

// Nothing is applied but what is committed, and it is not told where it has no Data.
func TestApplied(t *testing.T) {
	g := after(3, leads0(3))
	applied(t, g, 0) // its first entry has no Data
	script(g, "p0:a p0: p0:b p0:a p0: p0:c")
	fly(t, g, 12)
	applied(t, g, 0) // nobody else has it
	script(g, "d0*12")
	applied(t, g, 0) // it does not know that others have it
	applied(t, g, 1)
	script(g, "d0*12") // they have five entries of six, as many as a message takes
	applied(t, g, 0, "a", "b", "a")
	applied(t, g, 1) // it does not know yet
	script(g, "t0*2 d0*4")
	applied(t, g, 0, "a", "b", "a", "c")
	applied(t, g, 1, "a", "b", "a")
	script(g, "t0*2 d0*2")
	applied(t, g, 1, "a", "b", "a", "c")
	applied(t, g, 2, "a", "b", "a", "c")
	for _, id := range []int{-1, 3, 4} {
		applied(t, g, id)
	}
}

// Of one that is not up nothing is applied, and of one that has just started neither; then all again.
func TestAppliedOfFallen(t *testing.T) {
	for size := 1; size <= 5; size++ {
		g := after(size, leads0(size)+" p0:a p0: p0:b")
		quiet(g, size, 3)
		for id := range size {
			applied(t, g, id, "a", "b")
		}
		for id := size - 1; id >= 0; id-- {
			script(g, fmt.Sprintf("c%d", id))
			applied(t, g, id)
			script(g, fmt.Sprintf("s%d", id))
			applied(t, g, id)
		}
		quiet(g, size, 20)
		for id := range size {
			applied(t, g, id, "a", "b")
		}
	}
}

// All data is told as it was handed in, whatever its bytes.
func TestAppliedData(t *testing.T) {
	var l []string
	for b := range 256 {
		l = append(l, string([]byte{byte(b)}))
	}
	l = append(l, strings.Repeat("\x00long", 5000), " ", "a", "a")
	for size := 1; size <= 5; size++ {
		g := after(size, leads0(size))
		for _, data := range l {
			if !g.Propose(0, data) || !g.Propose(0, "") {
				t.Fatal("P901: a Leader does not propose")
			}
		}
		quiet(g, size, 240)
		for id := range size {
			applied(t, g, id, l...)
		}
	}
}

// A group of one applies at once what it is handed, once it leads.
func TestAppliedOfOne(t *testing.T) {
	g := group.New(1)
	answered(t, g, "t0*4 p0:a t0 p0:b p0:c p0: p0:d", "....-.++++")
	applied(t, g, 0, "b", "c", "d")
	answered(t, g, "c0 p0:e s0 p0:f", "+-+-")
	applied(t, g, 0)
	script(g, "t0*5") // in its next Term its next entry commits all
	applied(t, g, 0, "b", "c", "d")
	fly(t, g, 0)
}
