package raft_test

import (
	"fmt"
	"math"
	"testing"

	"federation/api"
	"federation/raft"
)

func matched(n api.Node, from, index, form int) api.Msg {
	return api.Msg{Kind: api.MMatch, From: from, To: n.Id, Term: n.Term, Ok: true, Index: index, Form: form}
}

func unmatched(n api.Node, from, index, form int) api.Msg {
	m := matched(n, from, index, form)
	m.Ok = false
	return m
}

// Match and Next rise by what is told, and never fall by what comes late; nothing is sent.
func TestMatch(t *testing.T) {
	n := leader(1, 5, 1, 1, 1, 1) // the fifth is its own
	for i, x := range []struct{ from, index, form, match int }{
		{0, 2, 1, 2}, {0, 3, 2, 3}, {0, 1, 1, 3}, {0, 0, 2, 3}, {3, 0, 2, 0}, {3, 4, 2, 4}, {0, 4, 1, 4}, {2, 4, 0, 4}, {4, 1, 7, 1}, {3, 3, 1, 4},
	} {
		want := but(n, func(n *api.Node) {
			n.Forms[x.from] = x.form
			n.Match[x.from], n.Next[x.from] = x.match, x.match+1
		})
		next, l := raft.Handle(n, matched(n, x.from, x.index, x.form))
		same(t, fmt.Sprint("P803: MMatch ", i), next, l, want)
		n = next
	}
}

// What is not Ok goes back by one at least, and further where the other one tells so; entries are sent to it alone.
func TestNoMatch(t *testing.T) {
	for i, x := range []struct{ next, index, want int }{
		{7, 6, 6}, {7, 5, 6}, {7, 9, 6}, {7, 4, 5}, {7, 1, 2}, {7, 0, 1}, {3, 2, 2}, {3, 1, 2}, {3, 0, 1}, {2, 1, 1}, {2, 0, 1}, {2, 7, 1}, {1, 0, 1}, {1, 5, 1},
		{7, math.MaxInt, 6}, {3, math.MaxInt - 1, 2}, {1, math.MaxInt, 1},
	} {
		n := leader(2, 4, 1, 1, 2, 2, 3) // the sixth is its own
		n.Next[1] = x.next
		for form := 1; form <= 2; form++ {
			want := but(n, func(n *api.Node) {
				n.Forms[1] = form
				n.Next[1] = x.want
			})
			next, l := raft.Handle(n, unmatched(n, 1, x.index, form))
			same(t, fmt.Sprint("P803: MMatch, not Ok, ", i), next, l, want, appendTo(want, 1))
		}
	}
}

// A majority's Match makes Commit, of which the Leader itself is one.
func TestCommit(t *testing.T) {
	for _, x := range []struct {
		size    int
		told    [][2]int // who, and its Match
		commits []int    // after each
	}{
		{2, [][2]int{{1, 0}, {1, 3}, {1, 4}, {1, 6}, {1, 5}}, []int{0, 3, 4, 6, 6}},
		{3, [][2]int{{1, 3}, {2, 3}, {2, 6}, {1, 4}, {1, 5}}, []int{3, 3, 6, 6, 6}},
		{4, [][2]int{{1, 6}, {2, 3}, {3, 5}, {3, 6}}, []int{0, 3, 5, 6}},
		{5, [][2]int{{4, 6}, {4, 6}, {3, 5}, {2, 4}, {1, 6}, {2, 6}}, []int{0, 0, 5, 5, 6, 6}},
		{5, [][2]int{{1, 3}, {2, 4}, {3, 5}, {4, 6}}, []int{0, 3, 4, 5}},
	} {
		n := leader(0, x.size, 1, 2) // the third is its own
		for _, data := range []string{"a", "b", "c"} {
			n, _, _ = raft.Propose(n, data)
		}
		for i, k := range x.told {
			n = handled(n, matched(n, k[0], k[1], 1))
			if n.Commit != x.commits[i] {
				t.Errorf("P803: of %d, after %v: Commit %d, not %d", x.size, x.told[:i+1], n.Commit, x.commits[i])
			}
			if _, l, _ := raft.Propose(n, "x"); l[0].Commit != x.commits[i] {
				t.Errorf("P802: a message's Commit: %s", saidAll(l))
			}
		}
	}
}

// Entries of earlier Terms are not counted, though all have them, till one of the Leader's own stands behind them.
func TestCommitOfOwnTermAlone(t *testing.T) {
	n := leader(0, 3, 1, 2, 2)
	for from := 1; from <= 2; from++ {
		for index := range 4 {
			n = handled(n, matched(n, from, index, 1))
			if n.Commit != 0 {
				t.Errorf("P803: an entry of an earlier Term is committed: %s", said(n))
			}
		}
	}
	if n = handled(n, matched(n, 2, 4, 1)); n.Commit != 4 {
		t.Errorf("P803: %s", said(n))
	}
}

// MMatches of other Terms, and to those that do not lead, tell nothing, not even a Form.
func TestMatchThatDoesNotCount(t *testing.T) {
	for role, n := range roles(0, 3, 1, 2) {
		for _, term := range []int{0, n.Term - 1, n.Term, n.Term + 1} {
			for _, ok := range []bool{false, true} {
				if role == api.Leader && term == n.Term {
					continue
				}
				want := clone(n)
				if term > n.Term {
					want.Term, want.Vote, want.Role = term, -1, api.Follower
				}
				for index := range 3 {
					m := api.Msg{Kind: api.MMatch, From: 2, To: 0, Term: term, Ok: ok, Index: index, Form: 2}
					next, l := raft.Handle(n, m)
					same(t, fmt.Sprintf("P803: MMatch of Term %d to role %d in %d", term, role, n.Term), next, l, want)
				}
			}
		}
	}
}

// Forms are as they were told last, Ok or not.
func TestForms(t *testing.T) {
	n := leader(0, 3, 1)
	for i, x := range []struct {
		from, form int
		ok         bool
		want       string
	}{
		{1, 2, true, "[1 2 1]"}, {2, 2, false, "[1 2 2]"}, {1, 1, false, "[1 1 2]"}, {2, 1, true, "[1 1 1]"}, {2, 2, true, "[1 1 2]"}, {1, 0, true, "[1 0 2]"}, {1, 3, false, "[1 3 2]"},
	} {
		m := matched(n, x.from, 1, x.form)
		m.Ok = x.ok
		if n = handled(n, m); fmt.Sprint(n.Forms) != x.want {
			t.Errorf("P803: Forms %d: %v, not %s", i, n.Forms, x.want)
		}
	}
	n.Form = 2
	if n = ticked(n, 4); fmt.Sprint(n.Forms) != "[1 3 2]" {
		t.Errorf("P803: its own Form is told: %v", n.Forms)
	}
}

// A log that lies far behind, and is wrong besides, is brought up, message by message.
func TestCatchUp(t *testing.T) {
	var terms []int
	for i := range 23 {
		terms = append(terms, 1+i/4)
	}
	for _, own := range [][]int{nil, {1}, {1, 1, 1, 1, 2, 2, 3, 3}, {1, 1, 1, 1, 1, 1, 1, 1}, {2, 2, 2}, append(terms[:20:20], 5, 5, 5, 5, 5, 5, 5, 5), terms} {
		n, slow := leader(0, 2, terms...), follower(1, 2, own...)
		slow.Form = 2
		l := appends(n)
		for range 40 {
			if len(l) == 0 {
				n, l, _ = raft.Propose(n, "x")
			}
			if n.Commit > 30 {
				break
			}
			var back []api.Msg
			slow, back = raft.Handle(slow, l[0])
			n, l = raft.Handle(n, back[0])
		}
		if saidLog(slow.Log) != saidLog(n.Log[:len(slow.Log)]) || n.Commit != 31 || n.Match[1] != 31 || n.Next[1] != 32 || n.Forms[1] != 2 {
			t.Errorf("T3: from %v on: %s\n%s", own, said(n), said(slow))
		}
	}
}
