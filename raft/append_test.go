package raft_test

import (
	"fmt"
	"math"
	"testing"

	"federation/api"
	"federation/raft"
)

// brought are entries of these Terms that none of entries are like.
func brought(terms ...int) []api.Entry {
	var l []api.Entry
	for i, term := range terms {
		l = append(l, api.Entry{Term: term, Data: fmt.Sprint("n", i+1)})
	}
	return l
}

// appendIs holds what becomes of n, a follower or what becomes one by it, by an MAppend.
func appendIs(t *testing.T, what string, n api.Node, m api.Msg, log []api.Entry, commit int, back api.Msg) api.Node {
	t.Helper()
	m.Kind, m.To = api.MAppend, n.Id
	want := but(n, func(n *api.Node) {
		if m.Term > n.Term {
			n.Term, n.Vote = m.Term, -1
		}
		n.Role = api.Follower
		n.Due = n.Clock + 5 + 2*n.Id
		n.Log, n.Commit = log, commit
	})
	back.Kind, back.From, back.To, back.Term, back.Form = api.MMatch, n.Id, m.From, want.Term, n.Form
	next, l := raft.Handle(n, m)
	same(t, what, next, l, want, back)
	return next
}

// Entries that fit, that don't, that are there, that are cut off and put anew: by the Terms of what there is (d1, d2 ..)
// and of what is brought (n1, n2 ..).
func TestAppend(t *testing.T) {
	for i, x := range []struct {
		own         []int
		index, term int
		brought     []int
		ok          bool
		back        int
		log         string
	}{
		// nothing ahead of them
		{nil, 0, 0, nil, true, 0, ""},
		{nil, 0, 0, []int{1}, true, 1, `(1 "n1")`},
		{nil, 0, 0, []int{1, 1, 2, 3, 3, 3, 4}, true, 7, `(1 "n1")(1 "n2")(2 "n3")(3 "n4")(3 "n5")(3 "n6")(4 "n7")`},
		{[]int{1, 2}, 0, 0, nil, true, 0, `(1 "d1")(2 "d2")`},
		// they stand behind the last one
		{[]int{1, 2}, 2, 2, nil, true, 2, `(1 "d1")(2 "d2")`},
		{[]int{1, 2}, 2, 2, []int{2, 3}, true, 4, `(1 "d1")(2 "d2")(2 "n1")(3 "n2")`},
		// they are there
		{[]int{1, 2}, 0, 0, []int{1, 2}, true, 2, `(1 "d1")(2 "d2")`},
		{[]int{1, 2}, 1, 1, []int{2}, true, 2, `(1 "d1")(2 "d2")`},
		{[]int{1, 2, 2}, 0, 0, []int{1}, true, 1, `(1 "d1")(2 "d2")(2 "d3")`},
		{[]int{1, 2, 2}, 1, 1, []int{2}, true, 2, `(1 "d1")(2 "d2")(2 "d3")`},
		// some are there, and others behind them
		{[]int{1, 2}, 0, 0, []int{1, 2, 2}, true, 3, `(1 "d1")(2 "d2")(2 "n3")`},
		{[]int{1, 2, 2}, 1, 1, []int{2, 2, 3, 4}, true, 5, `(1 "d1")(2 "d2")(2 "d3")(3 "n3")(4 "n4")`},
		// others stand there: they go, and all behind them, be they of that Term or not
		{[]int{1, 2}, 0, 0, []int{3}, true, 1, `(3 "n1")`},
		{[]int{1, 2, 2}, 1, 1, []int{3}, true, 2, `(1 "d1")(3 "n1")`},
		{[]int{1, 2, 2}, 2, 2, []int{3, 3}, true, 4, `(1 "d1")(2 "d2")(3 "n1")(3 "n2")`},
		{[]int{1, 2, 2, 3}, 1, 1, []int{2, 3}, true, 3, `(1 "d1")(2 "d2")(3 "n2")`},
		{[]int{1, 2, 2, 3}, 1, 1, []int{3, 2, 3}, true, 4, `(1 "d1")(3 "n1")(2 "n2")(3 "n3")`},
		{[]int{2, 2, 2}, 0, 0, []int{1, 2, 2}, true, 3, `(1 "n1")(2 "n2")(2 "n3")`},
		// what is ahead of them is not there
		{nil, 1, 1, []int{1}, false, 0, ""},
		{nil, 7, 1, nil, false, 0, ""},
		{nil, 7, 0, nil, false, 0, ""},
		{[]int{1, 2}, 3, 2, []int{2}, false, 2, `(1 "d1")(2 "d2")`},
		{[]int{1, 2}, 9, 2, nil, false, 2, `(1 "d1")(2 "d2")`},
		{[]int{1, 2}, math.MaxInt, 2, nil, false, 2, `(1 "d1")(2 "d2")`},
		// or is another one
		{[]int{1, 2}, 2, 1, []int{2}, false, 1, `(1 "d1")(2 "d2")`},
		{[]int{1, 2}, 2, 3, []int{3}, false, 1, `(1 "d1")(2 "d2")`},
		{[]int{1, 2}, 1, 2, []int{2}, false, 0, `(1 "d1")(2 "d2")`},
		{[]int{1, 2}, 1, 0, []int{2}, false, 0, `(1 "d1")(2 "d2")`},
		{[]int{1, 2, 2}, 2, 1, nil, false, 1, `(1 "d1")(2 "d2")(2 "d3")`},
	} {
		for id := range 3 {
			n := ticked(follower(id, 3, x.own...), 2)
			log, _ := logOf(x.own, x.brought, x.log)
			back := api.Msg{Ok: x.ok, Index: x.back}
			for _, term := range []int{n.Term, n.Term + 4} {
				m := api.Msg{From: other(n), Term: term, Index: x.index, LogTerm: x.term, Entries: brought(x.brought...)}
				what := fmt.Sprintf("P803: MAppend %d to %d in %d", i, id, term)
				next := appendIs(t, what, n, m, log, 0, back)
				appendIs(t, what+", twice", ticked(next, 1), m, log, 0, back)
			}
		}
	}
}

// logOf are the entries that a text names, of two lists.
func logOf(own, more []int, s string) (l []api.Entry, is bool) {
	all := append(entries(own...), brought(more...)...)
	for s != "" {
		is = false
		for _, e := range all {
			if one := saidLog([]api.Entry{e}); len(one) <= len(s) && s[:len(one)] == one {
				l, s, is = append(l, e), s[len(one):], true
				break
			}
		}
		if !is {
			return nil, false
		}
	}
	return l, true
}

func TestLogOf(t *testing.T) {
	if l, is := logOf([]int{1, 2}, []int{3}, `(1 "d1")(3 "n1")`); !is || saidLog(l) != `(1 "d1")(3 "n1")` {
		t.Errorf("%v, %v", l, is)
	}
}

// Commit is as far as the Leader's, but no further than what is known to be there, and it never falls.
func TestAppendCommit(t *testing.T) {
	for i, x := range []struct {
		index   int
		brought []int
		was     int
		commit  int
		want    int
	}{
		{0, nil, 0, 9, 0}, {1, nil, 0, 9, 1}, {2, nil, 0, 9, 2}, {3, nil, 0, 9, 3}, {3, nil, 0, 2, 2}, {3, nil, 0, 0, 0},
		{0, []int{1}, 0, 9, 1}, {0, []int{1, 1}, 0, 1, 1}, {2, []int{1, 2}, 0, 4, 4}, {2, []int{1, 2}, 0, 3, 3}, {3, []int{2, 2}, 0, 5, 5}, {3, []int{2, 2}, 0, 6, 5},
		{0, nil, 2, 9, 2}, {1, nil, 2, 9, 2}, {3, nil, 2, 1, 2}, {3, nil, 2, 0, 2}, {3, nil, 2, 3, 3}, {1, []int{1}, 2, 3, 2}, {1, []int{1, 1}, 2, 3, 3},
		{3, nil, 3, math.MaxInt, 3}, {3, []int{2}, 0, math.MaxInt, 4},
	} {
		n := follower(1, 3, 1, 1, 1)
		m := api.Msg{From: 0, Term: 1, Index: 3, LogTerm: 1, Commit: x.was}
		log := n.Log
		n = appendIs(t, fmt.Sprint("P803: Commit ahead of ", i), n, m, log, x.was, api.Msg{Ok: true, Index: 3})
		m = api.Msg{From: 2, Term: 2, Index: x.index, Entries: brought(x.brought...), Commit: x.commit}
		if x.index > 0 {
			m.LogTerm = 1
		}
		if end := x.index + len(x.brought); end > 3 {
			log = append(entries(1, 1, 1), m.Entries[3-x.index:]...)
		}
		appendIs(t, fmt.Sprint("P803: Commit ", i), n, m, log, x.want, api.Msg{Ok: true, Index: x.index + len(x.brought)})
	}
}

// What does not fit raises no Commit.
func TestRefusedCommit(t *testing.T) {
	n := follower(1, 3, 1, 2)
	for _, m := range []api.Msg{{Index: 3, LogTerm: 2}, {Index: 2, LogTerm: 1}, {Index: 1, LogTerm: 2}} {
		m.From, m.Term, m.Commit, m.Entries = 0, 2, 2, brought(2, 2)
		appendIs(t, "P803: Commit of what does not fit", n, m, n.Log, 0, api.Msg{Index: min(2, m.Index-1)})
	}
}

// An MAppend of a lower Term changes nothing; it is told how far the log goes, and the Term.
func TestAppendOfLowerTerm(t *testing.T) {
	for role, n := range roles(0, 3, 1, 2) {
		n.Form = 2
		for term := range n.Term {
			for index := range 5 {
				m := api.Msg{Kind: api.MAppend, From: 1, To: 0, Term: term, Index: index, Entries: brought(4), Commit: 3}
				if index > 0 {
					m.LogTerm = 1
				}
				next, l := raft.Handle(n, m)
				back := api.Msg{Kind: api.MMatch, From: 0, To: 1, Term: n.Term, Index: len(n.Log), Form: 2}
				same(t, fmt.Sprintf("P803: MAppend of %d to role %d in %d", term, role, n.Term), next, l, n, back)
			}
		}
	}
}

// Whoever has a Leader of its Term, or of a greater one, follows it: be it as it will what it has brought.
func TestAppendToRoles(t *testing.T) {
	for role, n := range roles(1, 3, 1, 2) {
		for form := 1; form <= 2; form++ {
			n.Form = form
			n = ticked(n, 1)
			for add := range 3 {
				if role == api.Leader && add == 0 {
					continue // two never lead in one Term
				}
				what := fmt.Sprintf("P803: MAppend to role %d, Term and %d", role, add)
				m := api.Msg{From: 2, Term: n.Term + add, Index: 2, LogTerm: 2}
				appendIs(t, what, n, m, n.Log, 0, api.Msg{Ok: true, Index: 2})
				m.Entries = brought(9)
				appendIs(t, what, n, m, append(entries(1, 2), m.Entries...), 0, api.Msg{Ok: true, Index: 3})
				m.LogTerm = 9
				appendIs(t, what, n, m, n.Log, 0, api.Msg{Index: 1})
			}
		}
	}
}

// More than a node sends in a message may be brought in one.
func TestAppendMany(t *testing.T) {
	terms := list(100, 3)
	m := api.Msg{From: 0, Term: 3, Entries: brought(terms...), Commit: 70}
	appendIs(t, "P803: a hundred", follower(1, 2, 1, 1), m, m.Entries, 70, api.Msg{Ok: true, Index: 100})
	n := follower(1, 2, terms...)
	appendIs(t, "P803: a hundred that are there", n, m, n.Log, 70, api.Msg{Ok: true, Index: 100})
}
