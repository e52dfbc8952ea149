package group_test

import (
	"fmt"
	"slices"
	"testing"

	"federation/group"
)

func isFront(front, l []string) bool {
	return len(front) <= len(l) && slices.Equal(front, l[:len(front)])
}

// fronts holds P902 of all nodes, and that none has applied anything else than was ever applied (T2). It answers the
// longest that was.
func fronts(t *testing.T, g *group.Group, size int, longest []string) []string {
	t.Helper()
	for id := range size {
		l := g.Applied(id)
		for other := range id {
			if o := g.Applied(other); !isFront(l, o) && !isFront(o, l) {
				t.Fatalf("P902: %d has applied %q, %d %q", id, l, other, o)
			}
		}
		if !isFront(l, longest) && !isFront(longest, l) {
			t.Fatalf("T2: %d has applied %q; before that was %q", id, l, longest)
		}
		if len(l) > len(longest) {
			longest = l
		}
	}
	return longest
}

// Whatever is lost, comes twice, falls and starts again.
func TestFronts(t *testing.T) {
	t.Parallel()
	d := &die{53}
	done, starts := 0, 0
	for i := range 200 {
		size := 1 + i%5
		g := group.New(size)
		var longest []string
		for step := range 600 {
			word := d.word(g, size, step)
			if is := do(g, word) == "+"; is && (word[0] == 's' || word[0] == 'u') {
				starts++
			}
			longest = fronts(t, g, size, longest)
		}
		done += len(longest)
	}
	if done < 2000 || starts < 500 {
		t.Errorf("the plays come to nothing: %d were applied, %d started again", done, starts)
	}
}

// disturbed is a group behind a play in which all went wrong, and what was applied in it.
func disturbed(t *testing.T, d *die, size int) (*group.Group, []string) {
	t.Helper()
	g := group.New(size)
	var longest []string
	for step := range 300 {
		do(g, d.word(g, size, step))
		longest = fronts(t, g, size, longest)
	}
	return g, longest
}

// upAre lets the nodes of a set be up, and all others not.
func upAre(g *group.Group, size, set int) (up []int) {
	for id := range size {
		if set>>id&1 == 1 {
			g.Start(id, 1)
			up = append(up, id)
		} else {
			g.Crash(id)
		}
	}
	return up
}

// With a majority up and messages coming one leads, and what it is handed is applied, behind all that was (T2, T7).
// Without one nothing more is (W4).
func TestMajority(t *testing.T) {
	t.Parallel()
	d := &die{59}
	for size := 1; size <= 5; size++ {
		for set := range 1 << size {
			for range 6 {
				g, longest := disturbed(t, d, size)
				up := upAre(g, size, set)
				quiet(g, size, 60)
				handed := handAll(g, size)
				quiet(g, size, 60)
				fronts(t, g, size, longest)
				if 2*len(up) <= size {
					noneApplied(t, g, size, handed)
					continue
				}
				if !slices.Contains(up, g.Leader()) {
					t.Fatalf("T7: of %d are %v up, and %d leads", size, up, g.Leader())
				}
				for _, id := range up {
					l := g.Applied(id)
					if !isFront(longest, l) || !slices.Equal(l[len(l)-len(handed):], handed) || len(handed) == 0 {
						t.Fatalf("T7: of %d are %v up, and %d has applied %q, behind %q, when %q were handed in", size, up, id, l, longest, handed)
					}
				}
			}
		}
	}
}

// handAll hands data to whoever takes it.
func handAll(g *group.Group, size int) (handed []string) {
	for k := range 7 {
		for id := range size {
			if data := fmt.Sprint("last", k); g.Propose(id, data) {
				handed = append(handed, data)
			}
		}
	}
	return handed
}

func noneApplied(t *testing.T, g *group.Group, size int, handed []string) {
	t.Helper()
	for id := range size {
		for _, data := range g.Applied(id) {
			if slices.Contains(handed, data) {
				t.Fatalf("W4: no majority is up, and %d has applied %s", id, data)
			}
		}
	}
}

// One that was cut off for long catches up, also with more than stands in one message, and with a Leader of its own
// Term or another.
func TestCatchUp(t *testing.T) {
	for size := 3; size <= 5; size++ {
		for _, late := range []int{0, 1, size - 1} {
			g := after(size, leads0(size)+fmt.Sprintf(" c%d", late))
			quiet(g, size, 40)
			lead := g.Leader()
			if lead < 0 || lead == late {
				t.Fatalf("T7: %d leads without %d", lead, late)
			}
			var want []string
			for k := range 23 {
				want = append(want, fmt.Sprint(k))
				if !g.Propose(lead, want[k]) {
					t.Fatal("P901: a Leader does not propose")
				}
			}
			quiet(g, size, 20)
			script(g, fmt.Sprintf("u%d", late))
			quiet(g, size, 30)
			for id := range size {
				applied(t, g, id, want...)
			}
			if at := g.Leader(); at != late && node(t, g, at).Forms[late] != 2 {
				t.Errorf("P901: who leads has not heard of the form of %d: %s", late, said(node(t, g, at)))
			}
		}
	}
}
