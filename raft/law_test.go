package raft_test

import (
	"fmt"
	"testing"

	"federation/api"
	"federation/raft"
)

// law is the chapter once more, its words one by one: a node and what it sends. Its entries are counted from 1 on.
type law struct {
	n api.Node
	l []api.Msg
}

func (w *law) entryTerm(at int) int {
	for i, e := range w.n.Log {
		if i+1 == at {
			return e.Term
		}
	}
	return 0
}

func (w *law) say(to int, m api.Msg) {
	m.From, m.To, m.Term = w.n.Id, to, w.n.Term
	w.l = append(w.l, m)
}

func (w *law) sendEntries(to int) {
	m := api.Msg{Kind: api.MAppend, Index: w.n.Next[to] - 1, Commit: w.n.Commit}
	m.LogTerm = w.entryTerm(m.Index)
	for i, e := range w.n.Log {
		if i+1 >= w.n.Next[to] && len(m.Entries) < 5 {
			m.Entries = append(m.Entries, e)
		}
	}
	w.say(to, m)
}

func (w *law) sendAll() {
	for to := range w.n.Votes {
		if to != w.n.Id {
			w.sendEntries(to)
		}
	}
}

func (w *law) put(data string) {
	n := &w.n
	n.Log = append(n.Log, api.Entry{Term: n.Term, Data: data})
	n.Match[n.Id] = len(n.Log)
	if len(n.Votes) == 1 {
		n.Commit = len(n.Log)
	}
	w.sendAll()
}

func (w *law) leads() {
	n := &w.n
	n.Role = api.Leader
	for i := range n.Votes {
		n.Next[i], n.Match[i] = len(n.Log)+1, 0
	}
	w.put("")
}

func (w *law) tick() {
	n := &w.n
	n.Clock++
	switch {
	case n.Role == api.Leader && n.Clock&1 == 0:
		w.sendAll()
	case n.Role != api.Leader && n.Clock >= n.Due:
		n.Term++
		n.Role, n.Vote, n.Due = api.Candidate, n.Id, n.Clock+5+n.Id+n.Id
		for i := range n.Votes {
			n.Votes[i] = i == n.Id
		}
		for to := range n.Votes {
			if to != n.Id {
				w.say(to, api.Msg{Kind: api.MVote, Index: len(n.Log), LogTerm: w.entryTerm(len(n.Log))})
			}
		}
		if len(n.Votes) == 1 {
			w.leads()
		}
	}
}

func (w *law) handle(m api.Msg) {
	n := &w.n
	if m.Term > n.Term {
		n.Term = m.Term
		n.Vote = -1
		n.Role = api.Follower
	}
	switch m.Kind {
	case api.MVote:
		w.vote(m)
	case api.MVoted:
		if n.Role == api.Candidate && n.Term == m.Term && m.Ok {
			n.Votes[m.From] = true
			have := 0
			for _, is := range n.Votes {
				if is {
					have++
				}
			}
			if 2*have > len(n.Votes) {
				w.leads()
			}
		}
	case api.MAppend:
		w.append(m)
	case api.MMatch:
		if n.Role == api.Leader && n.Term == m.Term {
			w.match(m)
		}
	}
}

func (w *law) vote(m api.Msg) {
	n := &w.n
	back := api.Msg{Kind: api.MVoted}
	lastTerm := w.entryTerm(len(n.Log))
	if m.Term == n.Term {
		if n.Vote == -1 || n.Vote == m.From {
			if m.LogTerm > lastTerm {
				back.Ok = true
			}
			if m.LogTerm == lastTerm && m.Index >= len(n.Log) {
				back.Ok = true
			}
		}
	}
	if back.Ok {
		n.Vote = m.From
		n.Due = n.Clock + 5 + n.Id + n.Id
	}
	w.say(m.From, back)
}

func (w *law) append(m api.Msg) {
	n := &w.n
	if m.Term < n.Term {
		w.say(m.From, api.Msg{Kind: api.MMatch, Index: len(n.Log), Form: n.Form})
		return
	}
	n.Role = api.Follower
	n.Due = n.Clock + 5 + n.Id + n.Id
	if m.Index > len(n.Log) || m.Index > 0 && w.entryTerm(m.Index) != m.LogTerm {
		lesser := len(n.Log)
		if m.Index-1 < lesser {
			lesser = m.Index - 1
		}
		w.say(m.From, api.Msg{Kind: api.MMatch, Index: lesser, Form: n.Form})
		return
	}
	for i, e := range m.Entries {
		at := m.Index + i + 1
		if at <= len(n.Log) && w.entryTerm(at) == e.Term {
			continue
		}
		n.Log = append(append([]api.Entry(nil), n.Log[:at-1]...), e)
	}
	end := m.Index + len(m.Entries)
	for at := n.Commit + 1; at <= end && at <= m.Commit; at++ {
		n.Commit = at
	}
	w.say(m.From, api.Msg{Kind: api.MMatch, Ok: true, Index: end, Form: n.Form})
}

func (w *law) match(m api.Msg) {
	n := &w.n
	n.Forms[m.From] = m.Form
	if !m.Ok {
		next := n.Next[m.From] - 1
		if m.Index+1 < next {
			next = m.Index + 1
		}
		if next < 1 {
			next = 1
		}
		n.Next[m.From] = next
		w.sendEntries(m.From)
		return
	}
	if m.Index > n.Match[m.From] {
		n.Match[m.From] = m.Index
	}
	n.Next[m.From] = n.Match[m.From] + 1
	for at := 1; at <= len(n.Log); at++ {
		have := 0
		for _, k := range n.Match {
			if k >= at {
				have++
			}
		}
		if 2*have > len(n.Match) && w.entryTerm(at) == n.Term && at > n.Commit {
			n.Commit = at
		}
	}
}

func lawful(t *testing.T, what func() string, n api.Node, l []api.Msg, w law) {
	t.Helper()
	if got, want := said(n)+saidAll(l), said(w.n)+saidAll(w.l); got != want {
		t.Fatalf("%s:\n%s\nnot\n%s", what(), got, want)
	}
}

func lawfulHandle(t *testing.T, n api.Node, m api.Msg) api.Node {
	t.Helper()
	o, l := raft.Handle(n, m)
	w := law{n: clone(n)}
	w.handle(m)
	lawful(t, func() string { return fmt.Sprintf("P803: %s\nto %s", saidMsg(m), said(n)) }, o, l, w)
	return o
}

func lawfulTick(t *testing.T, n api.Node) api.Node {
	t.Helper()
	o, l := raft.Tick(n)
	w := law{n: clone(n)}
	w.tick()
	lawful(t, func() string { return "P802: Tick of " + said(n) }, o, l, w)
	return o
}

func lawfulPropose(t *testing.T, n api.Node, data string) api.Node {
	t.Helper()
	o, l, is := raft.Propose(n, data)
	w := law{n: clone(n)}
	if n.Role == api.Leader {
		w.put(data)
	}
	if is != (n.Role == api.Leader) {
		t.Fatalf("P802: Propose of %q: %v: %s", data, is, said(n))
	}
	lawful(t, func() string { return fmt.Sprintf("P802: Propose of %q to %s", data, said(n)) }, o, l, w)
	return o
}

// Every small message to small nodes of every role, log and vote.
func TestSmallMessages(t *testing.T) {
	t.Parallel()
	l := smallMessages()
	count := 0
	for _, terms := range [][]int{nil, {1}, {2}, {1, 2}, {2, 2}, {1, 3}, {1, 1, 2}, {1, 2, 2}, {1, 2, 3}} {
		for _, n := range smallNodes(terms) {
			for _, m := range l {
				lawfulHandle(t, n, m)
				count++
			}
		}
	}
	if count < 100000 {
		t.Errorf("%d alone", count)
	}
}

// smallNodes are nodes 1 of three, in Term 3, with entries of these Terms.
func smallNodes(terms []int) []api.Node {
	base := but(follower(1, 3, terms...), func(n *api.Node) { n.Term, n.Clock = 3, 4 })
	var l []api.Node
	for vote := -1; vote <= 2; vote++ {
		for _, commit := range []int{0, len(terms)} {
			l = append(l, but(base, func(n *api.Node) { n.Vote, n.Commit = vote, commit }))
		}
	}
	l = append(l, but(base, func(n *api.Node) {
		n.Role, n.Vote, n.Votes[1] = api.Candidate, 1, true
	}))
	for next := 1; next <= len(terms)+1; next++ {
		l = append(l, but(base, func(n *api.Node) {
			n.Role, n.Vote, n.Votes[1], n.Votes[0] = api.Leader, 1, true, true
			n.Match[1], n.Next[0], n.Next[2] = len(terms), next, len(terms)+1
			n.Match[0] = max(0, next-2)
		}))
	}
	return l
}

func smallMessages() []api.Msg {
	var l []api.Msg
	for term := 2; term <= 4; term++ {
		for _, from := range []int{0, 2} {
			for _, ok := range []bool{false, true} {
				l = append(l, api.Msg{Kind: api.MVoted, From: from, To: 1, Term: term, Ok: ok})
			}
			for index := range 5 {
				l = append(l, api.Msg{Kind: api.MMatch, From: from, To: 1, Term: term, Index: index, Form: 2})
				if index == 0 {
					l = append(l, api.Msg{Kind: api.MMatch, From: from, To: 1, Term: term, Ok: true, Index: index, Form: 2})
				}
				l = append(l, smallPlaces(from, term, index)...)
			}
		}
	}
	return l
}

// smallPlaces are messages that name an entry by number and Term.
func smallPlaces(from, term, index int) []api.Msg {
	var l []api.Msg
	for logTerm := 0; logTerm <= 4; logTerm++ {
		if index == 0 && logTerm > 0 {
			break
		}
		l = append(l, api.Msg{Kind: api.MVote, From: from, To: 1, Term: term, Index: index, LogTerm: logTerm})
		for _, terms := range [][]int{nil, {1}, {2}, {3}, {1, 2}, {2, 3}, {1, 2, 3}, {1, 1, 2, 2, 3, 3}} {
			if from > 0 {
				break // from whom it is counts in votes and matches alone
			}
			for _, commit := range []int{0, 1, 9} {
				l = append(l, api.Msg{Kind: api.MAppend, From: from, To: 1, Term: term, Index: index, LogTerm: logTerm, Entries: brought(terms...), Commit: commit})
			}
		}
	}
	return l
}

// Every small MMatch that is Ok, to Leaders of groups of two to five.
func TestSmallMatches(t *testing.T) {
	t.Parallel()
	for size := 2; size <= 5; size++ {
		for _, terms := range [][]int{{3}, {1, 3}, {1, 2}, {3, 3}, {1, 3, 3}, {1, 2, 3}, {2, 2, 2}} {
			for at := range 256 {
				n := but(leader(0, size, terms...), func(n *api.Node) { n.Term = 3 })
				n.Match[0], n.Commit = len(n.Log), at%(len(n.Log)+1)
				for i := 1; i < size; i++ {
					n.Match[i] = (at >> (2 * i)) % (len(n.Log) + 1)
					n.Next[i] = n.Match[i] + 1 + at%2*(len(n.Log)-n.Match[i])
				}
				for index := range len(n.Log) + 1 {
					lawfulHandle(t, n, api.Msg{Kind: api.MMatch, From: size - 1, To: 0, Term: 3, Ok: true, Index: index, Form: 1 + at%2})
				}
			}
		}
	}
}

// bent is a message with something else in it, that still may come to n.
func (d *die) bent(n api.Node, m api.Msg) api.Msg {
	switch d.of(9) {
	case 0:
		m.Kind = 1 + d.of(4)
	case 1:
		m.Term = max(0, m.Term-1+d.of(3))
	case 2:
		m.Index = d.of(len(n.Log) + 3)
	case 3:
		m.LogTerm = d.of(n.Term + 2)
	case 4:
		m.Ok = !m.Ok
	case 5:
		m.Entries = brought(one(d, nil, []int{n.Term}, []int{1, n.Term}, []int{n.Term, 1, 1, 1, 1, 1, 1})...)
	case 6:
		m.Commit = d.of(len(n.Log) + 3)
	case 7:
		m.Form = d.of(4)
	}
	if m.Index == 0 {
		m.LogTerm = 0
	}
	if m.Kind == api.MMatch && m.Ok {
		m.Index = min(m.Index, len(n.Log))
	}
	return m
}

// In plays of groups of one to five, each node that they come to does what the chapter says: with the messages that
// are there, and with bent ones, which are not gone on with.
func TestLawInPlays(t *testing.T) {
	t.Parallel()
	d := &die{5}
	for i := range 100 {
		p := newPlay(d, 1+i%5)
		for range 300 {
			p.step()
			n := p.nodes[d.of(len(p.nodes))]
			lawfulTick(t, n)
			lawfulPropose(t, n, one(d, "", "x", "\xff\x00 y"))
			if len(p.flight) == 0 {
				continue
			}
			m := p.flight[d.of(len(p.flight))]
			n = p.nodes[m.To]
			lawfulHandle(t, n, m)
			for range 5 {
				lawfulHandle(t, n, d.bent(n, d.bent(n, m)))
			}
		}
	}
}
