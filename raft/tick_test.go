package raft_test

import (
	"fmt"
	"math"
	"testing"

	"federation/api"
	"federation/raft"
)

// asked are the MVotes that n sends.
func asked(n api.Node) []api.Msg {
	var l []api.Msg
	for to := range len(n.Votes) {
		if to == n.Id {
			continue
		}
		m := api.Msg{Kind: api.MVote, From: n.Id, To: to, Term: n.Term, Index: len(n.Log)}
		if len(n.Log) > 0 {
			m.LogTerm = n.Log[len(n.Log)-1].Term
		}
		l = append(l, m)
	}
	return l
}

// A follower waits till it is Due, and not longer; then it stands, and again each time that it is Due.
func TestTickTillDue(t *testing.T) {
	for size := 2; size <= 5; size++ {
		for id := range size {
			for _, n := range []api.Node{follower(id, size), follower(id, size, 1, 3, 3), ticked(follower(id, size, 2), 3)} {
				for stands := range 3 {
					n = standsWhenDue(t, n, stands)
				}
			}
		}
	}
}

func standsWhenDue(t *testing.T, n api.Node, stands int) api.Node {
	t.Helper()
	what := fmt.Sprintf("P802: Tick of %d of %d, %d", n.Id, len(n.Votes), stands)
	for n.Clock+1 < n.Due {
		next, l := raft.Tick(n)
		same(t, what, next, l, but(n, func(n *api.Node) { n.Clock++ }))
		n = next
	}
	next, l := raft.Tick(n)
	want := but(n, func(n *api.Node) {
		n.Clock++
		n.Term++
		n.Role, n.Vote = api.Candidate, n.Id
		n.Votes = list(len(n.Votes), false)
		n.Votes[n.Id] = true
		n.Due = n.Clock + 5 + 2*n.Id
	})
	same(t, what+", Due", next, l, want, asked(want)...)
	return next
}

// Votes of an earlier try do not count in the next one.
func TestVotesBeginAnew(t *testing.T) {
	n := candidate(0, 5, 1)
	n = handled(n, api.Msg{Kind: api.MVoted, From: 3, To: 0, Term: n.Term, Ok: true})
	if fmt.Sprint(n.Votes) != "[true false false true false]" || n.Role != api.Candidate {
		t.Fatalf("P803: %s", said(n))
	}
	n = ticked(n, n.Due-n.Clock)
	if fmt.Sprint(n.Votes) != "[true false false false false]" || n.Role != api.Candidate {
		t.Errorf("P802: %s", said(n))
	}
	n = handled(n, api.Msg{Kind: api.MVoted, From: 1, To: 0, Term: n.Term, Ok: true})
	if n.Role != api.Candidate {
		t.Errorf("P802: one leads by two votes of five: %s", said(n))
	}
}

// One whose clock is beyond Due stands at once: a Leader is Due too, though it does not ask for that while it leads.
func TestTickBeyondDue(t *testing.T) {
	n := leader(0, 3, 1)
	due := n.Due
	n = ticked(n, 40)
	if n.Role != api.Leader || n.Due != due || n.Clock <= due+20 {
		t.Fatalf("P802: %s", said(n))
	}
	n = handled(n, api.Msg{Kind: api.MVote, From: 1, To: 0, Term: n.Term + 1})
	if n.Role != api.Follower || n.Due != due || n.Vote != -1 {
		t.Fatalf("P803: %s", said(n))
	}
	standsWhenDue(t, n, 0)
	if next, _ := raft.Tick(n); next.Role != api.Candidate || next.Clock != n.Clock+1 {
		t.Errorf("P802: %s", said(next))
	}
}

// appends are what a Leader sends to all others, from their Next on.
func appends(n api.Node) []api.Msg {
	var l []api.Msg
	for to := range len(n.Votes) {
		if to != n.Id {
			l = append(l, appendTo(n, to))
		}
	}
	return l
}

func appendTo(n api.Node, to int) api.Msg {
	m := api.Msg{Kind: api.MAppend, From: n.Id, To: to, Term: n.Term, Index: n.Next[to] - 1, Commit: n.Commit}
	if m.Index > 0 {
		m.LogTerm = n.Log[m.Index-1].Term
	}
	for at := n.Next[to]; at <= len(n.Log) && len(m.Entries) < 5; at++ {
		m.Entries = append(m.Entries, n.Log[at-1])
	}
	return m
}

// A Leader sends entries whenever its clock is even, and else does nothing, however long it leads.
func TestTickOfLeader(t *testing.T) {
	for size := 2; size <= 5; size++ {
		for id := range size {
			n := leader(id, size, 1, 1, 3)
			for range 30 {
				want := but(n, func(n *api.Node) { n.Clock++ })
				var sent []api.Msg
				if want.Clock%2 == 0 {
					sent = appends(want)
				}
				next, l := raft.Tick(n)
				same(t, fmt.Sprintf("P802: Tick of Leader %d of %d", id, size), next, l, want, sent...)
				n = next
			}
		}
	}
}

// From Next on, and five at most: known by numbers.
func TestEntriesSent(t *testing.T) {
	n := leader(1, 3, 1, 1, 2, 2, 2, 3, 3, 4) // and one of its own, the ninth, of Term 5
	n.Clock = 1
	for _, x := range []struct{ next, index, term, count int }{
		{1, 0, 0, 5}, {2, 1, 1, 5}, {3, 2, 1, 5}, {4, 3, 2, 5}, {5, 4, 2, 5}, {6, 5, 2, 4}, {7, 6, 3, 3}, {8, 7, 3, 2}, {9, 8, 4, 1}, {10, 9, 5, 0},
	} {
		n.Next = []int{x.next, 1, 10}
		n.Commit = x.index
		_, l := raft.Tick(n)
		want := api.Msg{Kind: api.MAppend, From: 1, To: 0, Term: 5, Index: x.index, LogTerm: x.term, Entries: n.Log[x.index : x.index+x.count], Commit: x.index}
		if len(l) != 2 || saidMsg(l[0]) != saidMsg(want) {
			t.Errorf("P802: Next %d: %s", x.next, saidAll(l))
		}
		if len(l) != 2 || l[1].To != 2 || l[1].Index != 9 || l[1].LogTerm != 5 || len(l[1].Entries) != 0 {
			t.Errorf("P802: Next 10: %s", saidAll(l))
		}
	}
}

// One alone leads as soon as it is Due, and has all that it puts.
func TestAlone(t *testing.T) {
	n := raft.New(0, 1, 2)
	for range 4 {
		next, l := raft.Tick(n)
		same(t, "P802: alone", next, l, but(n, func(n *api.Node) { n.Clock++ }))
		n = next
	}
	n, l := raft.Tick(n)
	want := api.Node{Term: 1, Log: []api.Entry{{Term: 1}}, Form: 2, Role: api.Leader, Commit: 1, Votes: []bool{true}, Next: []int{1}, Match: []int{1}, Forms: []int{1}, Clock: 5, Due: 10}
	same(t, "P802: alone", n, l, want)
	for i := range 30 {
		n = ticked(n, i)
		want.Clock += i
		var is bool
		n, l, is = raft.Propose(n, fmt.Sprint(i))
		want.Log = append(want.Log, api.Entry{Term: 1, Data: fmt.Sprint(i)})
		want.Commit, want.Match = i+2, []int{i + 2}
		same(t, "P802: alone", n, l, want)
		if !is {
			t.Error("P802: one alone can't propose")
		}
	}
	n, l = raft.Tick(ticked(raft.Restart(n, 1), 4))
	want.Term, want.Commit, want.Next, want.Match = 2, 32, []int{32}, []int{32}
	want.Log = append(want.Log, api.Entry{Term: 2})
	want.Clock, want.Due = 5, 10
	same(t, "P802: alone, after a Restart", n, l, want)
}

// Behind the greatest Term there is none: none votes twice in it, and it is not left.
func TestGreatestTerm(t *testing.T) {
	n := handled(follower(1, 3, 1), api.Msg{Kind: api.MVote, From: 0, To: 1, Term: math.MaxInt, Index: 5, LogTerm: 5})
	if n.Term != math.MaxInt || n.Vote != 0 {
		t.Fatalf("P803: %s", said(n))
	}
	for range 30 {
		next, l := raft.Tick(n)
		same(t, "P804: Tick in the greatest Term", next, l, but(n, func(n *api.Node) { n.Clock++ }))
		n = next
	}
	n = candidate(1, 3, 1, math.MaxInt-1)
	if n.Term != math.MaxInt || n.Role != api.Candidate {
		t.Errorf("P802: %s", said(n))
	}
	n = ticked(n, 30)
	if n.Term != math.MaxInt || n.Vote != 1 || n.Role != api.Candidate {
		t.Errorf("P804: %s", said(n))
	}
}
