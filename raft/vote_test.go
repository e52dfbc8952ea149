package raft_test

import (
	"fmt"
	"testing"

	"federation/api"
	"federation/raft"
)

// voteIs holds what becomes of n by an MVote.
func voteIs(t *testing.T, what string, n api.Node, m api.Msg, ok bool) api.Node {
	t.Helper()
	m.Kind, m.To = api.MVote, n.Id
	want := clone(n)
	if m.Term > n.Term {
		want.Term, want.Vote, want.Role = m.Term, -1, api.Follower
	}
	if ok {
		want.Vote, want.Due = m.From, n.Clock+5+2*n.Id
	}
	next, l := raft.Handle(n, m)
	back := api.Msg{Kind: api.MVoted, From: n.Id, To: m.From, Term: want.Term, Ok: ok}
	same(t, what, next, l, want, back)
	return next
}

// A vote is for a log that is not behind: by the last Term first, then by how many entries there are.
func TestVoteByLog(t *testing.T) {
	for i, x := range []struct {
		own         []int
		index, term int
		ok          bool
	}{
		{nil, 0, 0, true}, {nil, 1, 1, true}, {nil, 7, 3, true}, {nil, 3, 0, true},
		{[]int{1}, 0, 0, false}, {[]int{1}, 1, 1, true}, {[]int{1}, 2, 1, true}, {[]int{1}, 1, 2, true}, {[]int{1}, 9, 0, false},
		{[]int{1, 2}, 2, 2, true}, {[]int{1, 2}, 3, 2, true}, {[]int{1, 2}, 1, 2, false}, {[]int{1, 2}, 1, 3, true},
		{[]int{1, 2}, 9, 1, false}, {[]int{1, 2}, 2, 1, false}, {[]int{1, 2}, 0, 0, false},
		{[]int{2, 2, 2}, 2, 2, false}, {[]int{2, 2, 2}, 3, 2, true}, {[]int{2, 2, 2}, 1, 3, true}, {[]int{2, 2, 2}, 4, 1, false},
	} {
		for size := 2; size <= 5; size++ {
			for id := range size {
				n := ticked(follower(id, size, x.own...), 3)
				for term := n.Term; term <= n.Term+2; term++ {
					m := api.Msg{From: other(n), Term: term, Index: x.index, LogTerm: x.term}
					voteIs(t, fmt.Sprintf("P803: MVote %d to %d of %d in %d", i, id, size, term), n, m, x.ok)
				}
			}
		}
	}
}

// In one Term one node is voted for, however often; in a greater one anybody again; in a lower one nobody.
func TestVoteOnce(t *testing.T) {
	n := ticked(follower(1, 4, 2), 2)
	for i, x := range []struct {
		from, term int
		ok         bool
	}{
		{0, 1, false}, {0, 0, false}, {3, 2, true}, {3, 2, true}, {0, 2, false}, {2, 2, false}, {3, 2, true},
		{0, 3, true}, {3, 3, false}, {3, 2, false}, {0, 2, false}, {0, 3, true}, {2, 9, true}, {0, 8, false}, {0, 9, false}, {2, 9, true},
	} {
		n = ticked(n, 1)
		n = voteIs(t, fmt.Sprint("P804: vote ", i), n, api.Msg{From: x.from, Term: x.term, Index: 1, LogTerm: 2}, x.ok)
	}
}

// A vote that the log refuses is still to be had by another one of that Term, and Due stays.
func TestVoteAfterRefusal(t *testing.T) {
	n := ticked(follower(2, 3, 1, 3), 4)
	n = voteIs(t, "P803: behind", n, api.Msg{From: 0, Term: 7, Index: 5, LogTerm: 2}, false)
	n = voteIs(t, "P803: not behind", n, api.Msg{From: 1, Term: 7, Index: 2, LogTerm: 3}, true)
	voteIs(t, "P803: too late", n, api.Msg{From: 0, Term: 7, Index: 9, LogTerm: 6}, false)
}

// A Candidate and a Leader have voted for themselves; a greater Term makes followers of them, whether they vote or not.
func TestVoteOfRoles(t *testing.T) {
	for role, n := range roles(0, 3, 1, 2) {
		last := len(n.Log)
		term := n.Log[last-1].Term
		for add := -2; add <= 2; add++ {
			for _, behind := range []bool{false, true} {
				m := api.Msg{From: 2, Term: n.Term + add, Index: last, LogTerm: term}
				if behind {
					m.Index--
				}
				ok := !behind && (add > 0 || add == 0 && role == api.Follower)
				voteIs(t, fmt.Sprintf("P803: MVote to role %d, Term and %d, behind %v", role, add, behind), n, m, ok)
			}
		}
	}
}

// Whoever followed a Leader in a Term has not voted by that.
func TestFollowingIsNoVote(t *testing.T) {
	n := follower(1, 3, 4)
	if n.Vote != -1 || n.Term != 4 {
		t.Fatalf("P803: %s", said(n))
	}
	voteIs(t, "P803: a follower's vote", n, api.Msg{From: 0, Term: 4, Index: 1, LogTerm: 4}, true)
}
