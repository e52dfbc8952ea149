package raft_test

import (
	"fmt"
	"slices"
	"strings"
	"testing"

	"federation/api"
	"federation/raft"
)

// die throws, each time the same.
type die struct{ n uint64 }

func (d *die) of(k int) int {
	d.n = d.n*6364136223846793005 + 1442695040888963407
	return int(d.n>>33) % k
}

func one[T any](d *die, l ...T) T { return l[d.of(len(l))] }

// said is a node as a text: no list and an empty one are the same.
func said(n api.Node) string {
	return fmt.Sprintf("id %d term %d vote %d log %s form %d role %d commit %d votes %v next %v match %v forms %v clock %d due %d",
		n.Id, n.Term, n.Vote, saidLog(n.Log), n.Form, n.Role, n.Commit, n.Votes, n.Next, n.Match, n.Forms, n.Clock, n.Due)
}

func saidLog(l []api.Entry) string {
	var b strings.Builder
	for _, e := range l {
		fmt.Fprintf(&b, "(%d %q)", e.Term, e.Data)
	}
	return b.String()
}

func saidMsg(m api.Msg) string {
	return fmt.Sprintf("kind %d from %d to %d term %d index %d logterm %d ok %v entries %s commit %d form %d",
		m.Kind, m.From, m.To, m.Term, m.Index, m.LogTerm, m.Ok, saidLog(m.Entries), m.Commit, m.Form)
}

func saidAll(l []api.Msg) string {
	var b strings.Builder
	for _, m := range l {
		b.WriteString(saidMsg(m) + "\n")
	}
	return b.String()
}

// clone is n in memory of its own.
func clone(n api.Node) api.Node {
	n.Log = slices.Clone(n.Log)
	n.Votes = slices.Clone(n.Votes)
	n.Next = slices.Clone(n.Next)
	n.Match = slices.Clone(n.Match)
	n.Forms = slices.Clone(n.Forms)
	return n
}

// but is n with something else in it.
func but(n api.Node, change func(*api.Node)) api.Node {
	n = clone(n)
	change(&n)
	return n
}

// entries are of these Terms, each of another Data.
func entries(terms ...int) []api.Entry {
	var l []api.Entry
	for i, term := range terms {
		l = append(l, api.Entry{Term: term, Data: fmt.Sprint("d", i+1)})
	}
	return l
}

func same(t *testing.T, what string, n api.Node, l []api.Msg, want api.Node, wantAll ...api.Msg) {
	t.Helper()
	if got, want := said(n), said(want); got != want {
		t.Errorf("%s: the node is\n%s\nnot\n%s", what, got, want)
	}
	if got, want := saidAll(l), saidAll(wantAll); got != want {
		t.Errorf("%s: sent is\n%snot\n%s", what, got, want)
	}
}

// ticked is n when its clock has gone on by k.
func ticked(n api.Node, k int) api.Node {
	for range k {
		n, _ = raft.Tick(n)
	}
	return n
}

func handled(n api.Node, l ...api.Msg) api.Node {
	for _, m := range l {
		n, _ = raft.Handle(n, m)
	}
	return n
}

// other is some other node of n's group, which must have one.
func other(n api.Node) int { return (n.Id + 1) % len(n.Votes) }

// follower is a node that a Leader, other, has brought these entries, in the Term of the last one.
func follower(id, size int, terms ...int) api.Node {
	n := raft.New(id, size, 1)
	if len(terms) == 0 {
		return n
	}
	return handled(n, api.Msg{Kind: api.MAppend, From: other(n), To: id, Term: terms[len(terms)-1], Entries: entries(terms...)})
}

// candidate is a follower that has lost its patience.
func candidate(id, size int, terms ...int) api.Node {
	n := follower(id, size, terms...)
	return ticked(n, n.Due-n.Clock)
}

// leader is a candidate that all have voted for, so far as that was needed.
func leader(id, size int, terms ...int) api.Node {
	n := candidate(id, size, terms...)
	for from := range size {
		if from != id {
			n = handled(n, api.Msg{Kind: api.MVoted, From: from, To: id, Term: n.Term, Ok: true})
		}
	}
	return n
}

// roles are nodes of each role, of one group and with the same log.
func roles(id, size int, terms ...int) []api.Node {
	return []api.Node{follower(id, size, terms...), candidate(id, size, terms...), leader(id, size, terms...)}
}

// TestHelp holds that the nodes that the other tests begin with are what they are called.
func TestHelp(t *testing.T) {
	for size := 2; size <= 5; size++ {
		for id := range size {
			for role, n := range roles(id, size, 1, 2) {
				if n.Role != role || n.Id != id || len(n.Votes) != size || saidLog(n.Log[:2]) != saidLog(entries(1, 2)) {
					t.Errorf("%d of %d as %d: %s", id, size, role, said(n))
				}
			}
		}
	}
}
