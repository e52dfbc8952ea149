package raft_test

import (
	"fmt"
	"math"
	"testing"

	"federation/api"
	"federation/raft"
)

func (d *die) number() int {
	return one(d, 0, 1, 2, 3, 4, 5, 6, 7, -1, -2, 100, 1<<31, math.MaxInt, math.MaxInt-1, math.MinInt, math.MinInt+1)
}

func (d *die) small() int { return d.of(6) }

func listOf[T any](d *die, size int, v func() T) []T {
	if d.of(12) == 0 {
		size = d.of(8)
	}
	var l []T
	for range size {
		l = append(l, v())
	}
	return l
}

// anyNode is whatever has a node's type.
func (d *die) anyNode() api.Node {
	number := one(d, d.number, d.small)
	size := one(d, 0, 1, 2, 3, 3, 3, 5, 6)
	n := api.Node{
		Id: one(d, number(), d.of(3)), Term: number(), Vote: number(), Form: number(), Role: one(d, number(), d.of(3), api.Leader),
		Commit: number(), Clock: number(), Due: number(),
	}
	for range d.of(8) {
		n.Log = append(n.Log, api.Entry{Term: number(), Data: "x"})
	}
	n.Votes = listOf(d, size, func() bool { return d.of(2) == 0 })
	n.Next, n.Match, n.Forms = listOf(d, size, number), listOf(d, size, number), listOf(d, size, number)
	return n
}

// anyMsg is whatever has a message's type.
func (d *die) anyMsg() api.Msg {
	number := one(d, d.number, d.small)
	m := api.Msg{
		Kind: one(d, number(), 1+d.of(4)), From: one(d, number(), d.of(3)), To: one(d, number(), d.of(3)), Term: number(),
		Index: number(), LogTerm: number(), Ok: d.of(2) == 0, Commit: number(), Form: number(),
	}
	for range d.of(8) {
		m.Entries = append(m.Entries, api.Entry{Term: number(), Data: "y"})
	}
	return m
}

// Whatever is handed in, each call ends, and none panics (P1).
func TestAnything(t *testing.T) {
	t.Parallel()
	d := &die{37}
	for range 400000 {
		n, m := d.anyNode(), d.anyMsg()
		raft.Tick(n)
		raft.Handle(n, m)
		raft.Propose(n, "x")
		raft.Restart(n, d.number())
		raft.New(d.number(), d.number(), d.number())
		m.To = n.Id
		raft.Handle(n, m)
	}
}

// Nodes that these tell, with one number or one list in them turned to whatever there is.
func TestTurnedNodes(t *testing.T) {
	t.Parallel()
	d := &die{41}
	numbers := []int{math.MinInt, math.MinInt + 1, -7, -2, -1, 0, 1, 2, 3, 4, 5, 6, 7, 1 << 31, 1 << 62, math.MaxInt - 1, math.MaxInt}
	for _, n := range append(roles(1, 3, 1, 1, 2), leader(1, 5, 1, 2, 2, 2, 2, 2, 2, 2)) {
		for field := range 12 {
			for _, k := range numbers {
				x := turned(n, field, k)
				raft.Tick(x)
				x.Clock++
				raft.Tick(x)
				raft.Propose(x, "x")
				raft.Restart(x, 1)
				for range 300 {
					m := d.bent(n, api.Msg{Kind: 1 + d.of(4), From: 2 * d.of(2), To: x.Id, Term: one(d, n.Term, x.Term), Index: d.of(4)})
					raft.Handle(x, m)
					m.Index, m.LogTerm = one(d, numbers...), 1
					raft.Handle(x, m)
				}
			}
		}
	}
}

func turned(n api.Node, field, k int) api.Node {
	n = clone(n)
	switch field {
	case 0:
		n.Id = k
	case 1:
		n.Term = k
	case 2:
		n.Vote = k
	case 3:
		n.Role = k
	case 4:
		n.Commit = k
	case 5:
		n.Clock = k
	case 6:
		n.Due = k
	case 7:
		n.Next = list(len(n.Next), k)
	case 8:
		n.Match = list(len(n.Match), k)
	case 9:
		n.Log[len(n.Log)-1].Term = k
	case 10:
		n.Log = n.Log[:min(max(k, 0), len(n.Log))]
	case 11:
		n.Votes = list(min(max(k, 0), 9), true)
	}
	return n
}

// A node whose lists are not of one size, or that is none of its group, is told as it is, and does nothing.
func TestWrongNodes(t *testing.T) {
	good := ticked(leader(1, 3, 1, 2), 1)
	for i, n := range []api.Node{
		{}, {Role: api.Leader}, {Role: api.Candidate, Clock: 9},
		but(good, func(n *api.Node) { n.Id = 3 }),
		but(good, func(n *api.Node) { n.Id = -1 }),
		but(good, func(n *api.Node) { n.Votes = nil }),
		but(good, func(n *api.Node) { n.Next = n.Next[:2] }),
		but(good, func(n *api.Node) { n.Match = append(n.Match, 0) }),
		but(good, func(n *api.Node) { n.Forms = nil }),
		but(good, func(n *api.Node) {
			n.Votes, n.Next, n.Match, n.Forms = list(6, true), list(6, 1), list(6, 0), list(6, 1)
		}),
	} {
		what := fmt.Sprint("P8: wrong node ", i)
		o, l := raft.Tick(n)
		same(t, what+", Tick", o, l, n)
		o, l = raft.Handle(n, api.Msg{Kind: api.MVote, From: 2, To: n.Id, Term: 9, Index: 9, LogTerm: 9})
		same(t, what+", Handle", o, l, n)
		o, l, is := raft.Propose(n, "x")
		same(t, what+", Propose", o, l, n)
		if is {
			t.Errorf("%s, Propose: true", what)
		}
	}
}

// A message that may not be is passed over (P9), whatever its Term.
func TestWrongMessages(t *testing.T) {
	for size := 1; size <= 5; size++ {
		for _, n := range wholeRoles(size) {
			from := (n.Id + 1) % size
			for kind := api.MVote; kind <= api.MMatch; kind++ {
				for _, term := range []int{n.Term - 1, n.Term, n.Term + 1} {
					good := api.Msg{Kind: kind, From: from, To: n.Id, Term: term, Index: 1, LogTerm: 1}
					for i, m := range wrongs(n, good) {
						o, l := raft.Handle(n, m)
						same(t, fmt.Sprintf("P8: wrong message %d of %d", i, size), o, l, n)
					}
				}
			}
		}
	}
}

func wholeRoles(size int) []api.Node {
	if size == 1 {
		return []api.Node{raft.New(0, 1, 1), ticked(raft.New(0, 1, 1), 7)}
	}
	return roles(size-1, size, 1, 2)
}

func wrongs(n api.Node, good api.Msg) []api.Msg {
	var l []api.Msg
	add := func(change func(m *api.Msg)) {
		m := good
		change(&m)
		l = append(l, m)
	}
	for _, k := range []int{math.MinInt, -1, 0, 5, 6, math.MaxInt} {
		add(func(m *api.Msg) { m.Kind = k })
	}
	for _, k := range []int{math.MinInt, -1, n.Id, len(n.Votes), 5, 6, math.MaxInt} {
		add(func(m *api.Msg) { m.From = k })
	}
	for _, k := range []int{math.MinInt, -1, n.Id - 1, n.Id + 1, good.From + len(n.Votes), math.MaxInt} {
		add(func(m *api.Msg) { m.To = k })
	}
	for _, k := range []int{math.MinInt, -2, -1} {
		add(func(m *api.Msg) { m.Term = k })
		add(func(m *api.Msg) { m.Index = k })
		add(func(m *api.Msg) { m.LogTerm = k })
		add(func(m *api.Msg) { m.Commit = k })
	}
	for _, k := range []int{1, 2, math.MaxInt} {
		add(func(m *api.Msg) { m.Index, m.LogTerm = 0, k })
	}
	for _, k := range []int{1, 2, math.MaxInt - len(n.Log)} {
		add(func(m *api.Msg) { m.Kind, m.Ok, m.Index = api.MMatch, true, len(n.Log)+k })
	}
	return l
}

// The last and the first that may be are handled.
func TestMessagesAtTheirBounds(t *testing.T) {
	for size := 2; size <= 5; size++ {
		n := leader(0, size, 1, 1)
		for from := 1; from < size; from++ {
			o := handled(n, matched(n, from, len(n.Log), 2))
			if o.Match[from] != len(n.Log) || o.Forms[from] != 2 {
				t.Errorf("P803: %s", said(o))
			}
			o = handled(n, unmatched(n, from, math.MaxInt, 2))
			if o.Forms[from] != 2 {
				t.Errorf("P803: %s", said(o))
			}
			o = handled(raft.New(0, size, 1), api.Msg{Kind: api.MVote, From: from, To: 0})
			if o.Vote != from || o.Term != 0 {
				t.Errorf("P803: %s", said(o))
			}
			o = handled(raft.New(0, size, 1), api.Msg{Kind: api.MVote, From: from, To: 0, Term: math.MaxInt, Index: math.MaxInt, LogTerm: math.MaxInt})
			if o.Vote != from || o.Term != math.MaxInt {
				t.Errorf("P803: %s", said(o))
			}
		}
	}
}
