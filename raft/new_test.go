package raft_test

import (
	"fmt"
	"math"
	"testing"

	"federation/api"
	"federation/raft"
)

func list[T any](size int, v T) []T {
	var l []T
	for range size {
		l = append(l, v)
	}
	return l
}

// begun is what P801 says of New.
func begun(id, size, form int) api.Node {
	return api.Node{
		Id: id, Term: 0, Vote: -1, Form: form, Role: api.Follower, Commit: 0,
		Votes: list(size, false), Next: list(size, 1), Match: list(size, 0), Forms: list(size, 1),
		Clock: 0, Due: 5 + 2*id,
	}
}

func TestNew(t *testing.T) {
	for size := 1; size <= 5; size++ {
		for id := range size {
			for form := 1; form <= 2; form++ {
				same(t, fmt.Sprintf("P801: New(%d, %d, %d)", id, size, form), raft.New(id, size, form), nil, begun(id, size, form))
			}
		}
	}
}

// Numbers out of bounds are refused (P9): there is no such node.
func TestNewOfWrongNumbers(t *testing.T) {
	for _, x := range [][3]int{
		{0, 0, 1}, {0, -1, 1}, {0, 6, 1}, {5, 6, 1}, {0, math.MaxInt, 1}, {0, math.MinInt, 1},
		{-1, 3, 1}, {3, 3, 1}, {1, 1, 1}, {5, 5, 2}, {math.MaxInt, 3, 1}, {math.MinInt, 3, 1},
		{0, 3, 0}, {0, 3, 3}, {0, 3, -1}, {0, 3, math.MaxInt}, {0, 3, math.MinInt}, {-1, 0, 0}, {9, 9, 9},
	} {
		same(t, fmt.Sprint("P9: New", x), raft.New(x[0], x[1], x[2]), nil, api.Node{})
	}
}

// used are nodes that have seen something, of each role, with something else than New's in each field.
func used(id, size int) []api.Node {
	if size == 1 {
		n := raft.Restart(ticked(raft.New(0, 1, 1), 9), 1)
		n, _, _ = raft.Propose(ticked(n, 6), "x")
		return []api.Node{n, ticked(raft.Restart(n, 1), 4)}
	}
	l := roles(id, size, 1, 2, 2)
	n := l[2]
	n = handled(n, api.Msg{Kind: api.MMatch, From: other(n), To: id, Term: n.Term, Ok: true, Index: 4, Form: 2})
	return append(l, n, handled(n, api.Msg{Kind: api.MVote, From: other(n), To: id, Term: n.Term + 1, Index: 9, LogTerm: 9}))
}

func TestRestart(t *testing.T) {
	for size := 1; size <= 5; size++ {
		for id := range size {
			for i, n := range used(id, size) {
				for was := 1; was <= 2; was++ {
					for form := 1; form <= 2; form++ {
						n.Form = was
						want := begun(id, size, max(was, form))
						want.Term, want.Vote, want.Log = n.Term, n.Vote, n.Log
						what := fmt.Sprintf("P801: Restart of %d of %d, %d, from %d with %d", id, size, i, was, form)
						same(t, what, raft.Restart(n, form), nil, want)
						same(t, what+", twice", raft.Restart(raft.Restart(n, form), 1), nil, want)
					}
				}
			}
		}
	}
}

// Who has voted and falls has voted still; who has led leads no more.
func TestVoteOutlastsRestart(t *testing.T) {
	n := handled(follower(1, 3, 1), api.Msg{Kind: api.MVote, From: 0, To: 1, Term: 4, Index: 1, LogTerm: 1})
	n = raft.Restart(n, 2)
	if n.Term != 4 || n.Vote != 0 {
		t.Fatalf("P801: %s", said(n))
	}
	for from, want := range map[int]bool{0: true, 2: false} {
		_, l := raft.Handle(n, api.Msg{Kind: api.MVote, From: from, To: 1, Term: 4, Index: 1, LogTerm: 1})
		if len(l) != 1 || l[0].Ok != want {
			t.Errorf("P804: a vote for %d after a Restart: %s", from, saidAll(l))
		}
	}
	n = raft.Restart(leader(0, 3, 1), 1)
	o, l, is := raft.Propose(n, "x")
	same(t, "P801: Propose after a Restart", o, l, n)
	if is {
		t.Error("P801: one leads after a Restart")
	}
}

// Of a node that may not be, or a form beyond the greatest, there is no Restart (P9); of one below it is the greater that counts.
func TestRestartOfWrong(t *testing.T) {
	n := leader(1, 3, 1, 2)
	for _, form := range []int{3, 4, math.MaxInt} {
		same(t, fmt.Sprint("P9: Restart with ", form), raft.Restart(n, form), nil, api.Node{})
	}
	for _, form := range []int{0, -1, math.MinInt} {
		same(t, fmt.Sprint("P801: Restart with ", form), raft.Restart(n, form), nil, raft.Restart(n, 1))
	}
	for i, x := range []api.Node{
		{}, {Vote: -1, Form: 1},
		but(n, func(n *api.Node) { n.Id = 3 }),
		but(n, func(n *api.Node) { n.Id = -1 }),
		but(n, func(n *api.Node) { n.Form = 3 }),
		but(n, func(n *api.Node) { n.Votes = nil }),
		but(n, func(n *api.Node) { n.Votes = list(6, true) }),
	} {
		same(t, fmt.Sprint("P8: Restart of wrong ", i), raft.Restart(x, 1), nil, api.Node{})
	}
}
