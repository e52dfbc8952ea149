package raft_test

import (
	"fmt"
	"testing"

	"federation/api"
	"federation/raft"
)

// led is what P802 says of one that leads from now on.
func led(n api.Node) api.Node {
	return but(n, func(n *api.Node) {
		n.Role = api.Leader
		n.Next = list(len(n.Next), len(n.Log)+1)
		n.Match = list(len(n.Match), 0)
		n.Log = append(n.Log, api.Entry{Term: n.Term})
		n.Match[n.Id] = len(n.Log)
	})
}

// One leads by the vote that makes a majority, whoever gives it, and by none that comes ahead of it.
func TestMajority(t *testing.T) {
	for size := 2; size <= 5; size++ {
		for id := range size {
			for first := range size {
				leadsByVotes(t, id, size, first)
			}
		}
	}
}

func leadsByVotes(t *testing.T, id, size, first int) {
	t.Helper()
	what := fmt.Sprintf("P803: votes for %d of %d, from %d on", id, size, first)
	n := candidate(id, size, 1, 2)
	votes := 1
	for i := range size {
		from := (first + i) % size
		if from == id || n.Role == api.Leader {
			continue
		}
		votes++
		want := but(n, func(n *api.Node) { n.Votes[from] = true })
		var sent []api.Msg
		if 2*votes > size {
			want = led(want)
			sent = appends(want)
		}
		m := api.Msg{Kind: api.MVoted, From: from, To: id, Term: n.Term, Ok: true}
		next, l := raft.Handle(n, m)
		same(t, what, next, l, want, sent...)
		again, l := raft.Handle(next, m)
		same(t, what+", twice", again, l, next)
		n = next
	}
	if n.Role != api.Leader {
		t.Errorf("%s: %s", what, said(n))
	}
}

// Only a Candidate counts votes, only those of its own Term, only those that are Ok.
func TestVotesThatDoNotCount(t *testing.T) {
	for role, n := range roles(0, 3, 1, 2) {
		for _, term := range []int{0, n.Term - 1, n.Term, n.Term + 1} {
			for _, ok := range []bool{false, true} {
				if role == api.Candidate && term == n.Term && ok {
					continue
				}
				want := clone(n)
				if term > n.Term {
					want.Term, want.Vote, want.Role = term, -1, api.Follower
				}
				next, l := raft.Handle(n, api.Msg{Kind: api.MVoted, From: 2, To: 0, Term: term, Ok: ok})
				same(t, fmt.Sprintf("P803: MVoted to role %d of Term %d in %d, %v", role, term, n.Term, ok), next, l, want)
			}
		}
	}
}

// What one has known as Leader of an earlier Term is forgotten, but for Forms.
func TestLeadsAgain(t *testing.T) {
	n := leader(0, 3, 1, 1)
	n, _, _ = raft.Propose(n, "x")
	for from := 1; from <= 2; from++ {
		n = handled(n, api.Msg{Kind: api.MMatch, From: from, To: 0, Term: n.Term, Ok: true, Index: 4, Form: 2})
	}
	if fmt.Sprint(n.Next, n.Match, n.Forms, n.Commit) != "[3 5 5] [4 4 4] [1 2 2] 4" {
		t.Fatalf("P803: %s", said(n))
	}
	n = handled(n, api.Msg{Kind: api.MVoted, From: 1, To: 0, Term: n.Term + 3})
	n, _ = raft.Tick(n)
	for n.Role != api.Candidate {
		n, _ = raft.Tick(n)
	}
	n, l := raft.Handle(n, api.Msg{Kind: api.MVoted, From: 1, To: 0, Term: n.Term, Ok: true})
	if fmt.Sprint(n.Next, n.Match, n.Forms, n.Commit, n.Role) != "[5 5 5] [5 0 0] [1 2 2] 4 2" {
		t.Errorf("P802: %s", said(n))
	}
	for _, m := range l {
		if m.Index != 4 || m.LogTerm != 2 || saidLog(m.Entries) != `(6 "")` || m.Commit != 4 {
			t.Errorf("P802: %s", saidMsg(m))
		}
	}
}

func TestPropose(t *testing.T) {
	for size := 2; size <= 5; size++ {
		for id := range size {
			n := leader(id, size, 1, 1)
			for i, data := range []string{"a", "", "\x00\xff", "a b", "(2 \"", "a", "x", "y", "z"} {
				want := but(n, func(n *api.Node) {
					n.Log = append(n.Log, api.Entry{Term: n.Term, Data: data})
					n.Match[n.Id] = len(n.Log)
				})
				next, l, is := raft.Propose(n, data)
				same(t, fmt.Sprintf("P802: Propose to %d of %d, %d", id, size, i), next, l, want, appends(want)...)
				if !is {
					t.Errorf("P802: Propose to a Leader: false")
				}
				n = next
			}
			if n.Commit != 0 || len(n.Log) != 12 {
				t.Errorf("P802: %s", said(n))
			}
		}
	}
}

// Whoever does not lead proposes nothing, and is as it was.
func TestProposeRefused(t *testing.T) {
	for size := 1; size <= 5; size++ {
		l := []api.Node{raft.New(0, size, 1), ticked(raft.New(0, size, 2), 4)}
		if size > 1 {
			lost := handled(leader(0, size, 1), api.Msg{Kind: api.MMatch, From: 1, To: 0, Term: 9})
			l = append(l, follower(0, size, 1, 2), candidate(0, size, 1), lost)
		}
		for i, n := range l {
			o, sent, is := raft.Propose(n, "x")
			same(t, fmt.Sprintf("P802: Propose to no Leader %d of %d", i, size), o, sent, n)
			if is {
				t.Errorf("P802: Propose to no Leader %d of %d: true", i, size)
			}
		}
	}
}
