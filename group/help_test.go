package group_test

import (
	"fmt"
	"strconv"
	"strings"
	"testing"

	"federation/api"
	"federation/group"
)

// calls is what a group can be asked.
type calls interface {
	Tick(id int)
	Deliver(at int) bool
	Drop(at int) bool
	Twice(at int) bool
	Propose(id int, data string) bool
	Crash(id int) bool
	Start(id, form int) bool
	Up(id int) bool
	Node(id int) (api.Node, bool)
	Applied(id int) []string
	Flight() int
	Leader() int
}

// die throws, each time the same.
type die struct{ n uint64 }

func (d *die) of(k int) int {
	d.n = d.n*6364136223846793005 + 1442695040888963407
	return int(d.n>>33) % k
}

// do does one word of a script: t, d, x, w, c, s, u and p, each with a number, are Tick, Deliver, Drop, Twice, Crash,
// Start with form 1 and with form 2, and Propose, its data behind a colon.
func do(g calls, word string) string {
	number, data, _ := strings.Cut(word[1:], ":")
	k, err := strconv.Atoi(number)
	if err != nil {
		panic(word)
	}
	is := false
	switch word[0] {
	case 't':
		g.Tick(k)
		return "."
	case 'd':
		is = g.Deliver(k)
	case 'x':
		is = g.Drop(k)
	case 'w':
		is = g.Twice(k)
	case 'c':
		is = g.Crash(k)
	case 's':
		is = g.Start(k, 1)
	case 'u':
		is = g.Start(k, 2)
	case 'p':
		is = g.Propose(k, data)
	default:
		panic(word)
	}
	if is {
		return "+"
	}
	return "-"
}

// script does words one by one, a word and *k k times, and tells what each answered: + and - are true and false.
func script(g calls, s string) string {
	answers := ""
	for _, word := range strings.Fields(s) {
		word, times, _ := strings.Cut(word, "*")
		k, _ := strconv.Atoi(times)
		for range max(k, 1) {
			answers += do(g, word)
		}
	}
	return answers
}

// after is a group of that size with which a script has been done.
func after(size int, s string) *group.Group {
	g := group.New(size)
	script(g, s)
	return g
}

// leads0 lets node 0 of a new group ask for votes, get them, and bring its first entry to all.
func leads0(size int) string {
	others := size - 1
	return fmt.Sprintf("t0*5 d0*%d t0 d0*%d", max(1, 4*others), max(1, 2*others))
}

// quiet are rounds in which those that are up tick, and all messages come, in order.
func quiet(g calls, size, rounds int) {
	for range rounds {
		for id := range size {
			g.Tick(id)
		}
		for range 500 {
			if !g.Deliver(0) {
				break
			}
		}
	}
}

// said is a node as a text: no list and an empty one are the same.
func said(n api.Node) string {
	var b strings.Builder
	for _, e := range n.Log {
		fmt.Fprintf(&b, "(%d %q)", e.Term, e.Data)
	}
	return fmt.Sprintf("id %d term %d vote %d log %s form %d role %d commit %d votes %v next %v match %v forms %v clock %d due %d",
		n.Id, n.Term, n.Vote, b.String(), n.Form, n.Role, n.Commit, n.Votes, n.Next, n.Match, n.Forms, n.Clock, n.Due)
}

// told is all that a group tells of itself, and of two nodes more on either side, which it has not.
func told(g calls, size int) string {
	var b strings.Builder
	fmt.Fprintf(&b, "flight %d leader %d\n", g.Flight(), g.Leader())
	for id := -2; id < size+2; id++ {
		n, is := g.Node(id)
		fmt.Fprintf(&b, "%d: up %v node %v %s applied %q\n", id, g.Up(id), is, said(n), g.Applied(id))
	}
	return b.String()
}

// node is a node that must be there.
func node(t *testing.T, g calls, id int) api.Node {
	t.Helper()
	n, is := g.Node(id)
	if !is {
		t.Fatalf("P901: no node %d", id)
	}
	return n
}

// answered holds what a script's words answer.
func answered(t *testing.T, g calls, s, want string) {
	t.Helper()
	if got := script(g, s); got != want {
		t.Errorf("P901: %s: answered %s, not %s", s, got, want)
	}
}

// changedNothing holds that a script changes nothing that the group tells, and that it is refused throughout.
func changedNothing(t *testing.T, g calls, size int, s string) {
	t.Helper()
	before := told(g, size)
	for _, c := range script(g, s) {
		if c == '+' {
			t.Errorf("P901: %s: not refused", s)
		}
	}
	if now := told(g, size); now != before {
		t.Errorf("P901: %s changes\n%s\nto\n%s", s, before, now)
	}
}

func fly(t *testing.T, g calls, want int) {
	t.Helper()
	if got := g.Flight(); got != want {
		t.Fatalf("P901: %d fly, not %d", got, want)
	}
}

// TestHelp holds that leads0 does what it says.
func TestHelp(t *testing.T) {
	for size := 1; size <= 5; size++ {
		g := after(size, leads0(size))
		if n := node(t, g, 0); n.Role != api.Leader || n.Term != 1 || n.Commit != 1 || g.Flight() != 0 {
			t.Errorf("of %d: %d fly, %s", size, g.Flight(), said(n))
		}
		for id := 1; id < size; id++ {
			if n := node(t, g, id); n.Role != api.Follower || n.Term != 1 || len(n.Log) != 1 || n.Commit != 1 {
				t.Errorf("of %d: %s", size, said(n))
			}
		}
	}
}
