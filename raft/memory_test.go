package raft_test

import (
	"fmt"
	"reflect"
	"testing"
	"unsafe"

	"federation/api"
	"federation/raft"
)

// span is the memory of a list, with its spare room, or of a text.
type span struct {
	from, to uintptr
	isText   bool
}

func (s span) meets(other span) bool { return s.from < other.to && other.from < s.to }

// spans are those of all lists and texts of x.
func spans(x reflect.Value) []span {
	var l []span
	switch x.Kind() {
	case reflect.String:
		if s := x.String(); s != "" {
			from := uintptr(unsafe.Pointer(unsafe.StringData(s)))
			l = append(l, span{from, from + uintptr(len(s)), true})
		}
	case reflect.Struct:
		for i := range x.NumField() {
			l = append(l, spans(x.Field(i))...)
		}
	case reflect.Slice:
		if size := uintptr(x.Cap()) * x.Type().Elem().Size(); size > 0 {
			l = append(l, span{x.Pointer(), x.Pointer() + size, false})
		}
		for i := range x.Len() {
			l = append(l, spans(x.Index(i))...)
		}
	}
	return l
}

func spansOf(l ...any) []span {
	var out []span
	for _, x := range l {
		out = append(out, spans(reflect.ValueOf(x))...)
	}
	return out
}

// apart holds that an answer lies in memory of its own, and so does each of its lists.
func apart(t *testing.T, what string, given, answered []span) {
	t.Helper()
	for i, a := range answered {
		for _, g := range given {
			if a.meets(g) {
				t.Fatalf("P2: %s: an answer shares memory with what was handed in (text: %v)", what, a.isText)
			}
		}
		for _, other := range answered[:i] {
			if a.meets(other) && !a.isText && !other.isText {
				t.Fatalf("P2: %s: two lists of an answer share memory", what)
			}
		}
	}
}

func own(s string) string { return string([]byte(s)) }

// room is a copy of l that has spare room, with something in it.
func room[T any](l []T, spare T) []T {
	out := append(make([]T, 0, len(l)+4), l...)
	return append(out, spare, spare, spare, spare)[:len(l)]
}

func roomyEntries(l []api.Entry) []api.Entry {
	out := room(l, api.Entry{Term: 777, Data: "spare"})
	for i := range out {
		out[i].Data = own(out[i].Data)
	}
	return out
}

func roomy(n api.Node) api.Node {
	n.Log = roomyEntries(n.Log)
	n.Votes = room(n.Votes, true)
	n.Next, n.Match, n.Forms = room(n.Next, 777), room(n.Match, 777), room(n.Forms, 777)
	return n
}

// whole is what is handed in as a text, with the spare room of its lists.
func whole(n api.Node, m api.Msg) string {
	return fmt.Sprint(said(n), saidLog(n.Log[:cap(n.Log)]), n.Votes[:cap(n.Votes)], n.Next[:cap(n.Next)], n.Match[:cap(n.Match)], n.Forms[:cap(n.Forms)],
		saidMsg(m), saidLog(m.Entries[:cap(m.Entries)]))
}

// spoil changes all that was told, and what stands in its spare room.
func spoil(n api.Node, l []api.Msg) {
	spoilLog(n.Log)
	for _, k := range [][]int{n.Next, n.Match, n.Forms} {
		k = k[:cap(k)]
		for i := range k {
			k[i] = -55
		}
	}
	votes := n.Votes[:cap(n.Votes)]
	for i := range votes {
		votes[i] = !votes[i]
	}
	for i := range l {
		spoilLog(l[i].Entries)
		l[i] = api.Msg{Kind: 99}
	}
	_ = append(l, api.Msg{Kind: 99})
}

func spoilLog(l []api.Entry) {
	l = l[:cap(l)]
	for i := range l {
		l[i] = api.Entry{Term: -99, Data: "spoilt"}
	}
}

// asks are all calls that a node, a message and data can be handed in to.
func asks() map[string]func(n api.Node, m api.Msg, data string) (api.Node, []api.Msg) {
	return map[string]func(n api.Node, m api.Msg, data string) (api.Node, []api.Msg){
		"Tick":   func(n api.Node, _ api.Msg, _ string) (api.Node, []api.Msg) { return raft.Tick(n) },
		"Handle": func(n api.Node, m api.Msg, _ string) (api.Node, []api.Msg) { return raft.Handle(n, m) },
		"Propose": func(n api.Node, _ api.Msg, data string) (api.Node, []api.Msg) {
			o, l, _ := raft.Propose(n, data)
			return o, l
		},
		"Restart": func(n api.Node, _ api.Msg, _ string) (api.Node, []api.Msg) { return raft.Restart(n, 2), nil },
	}
}

// What is handed in stays as it is, with its spare room; what is told is new (P2), the same again (P3), and may be
// changed.
func memoryHolds(t *testing.T, n api.Node, m api.Msg, data string) {
	t.Helper()
	n, m.Entries, data = roomy(n), roomyEntries(m.Entries), own(data)
	before := whole(n, m)
	for what, ask := range asks() {
		o, l := ask(n, m, data)
		apart(t, what, spansOf(n, m, data), spansOf(o, l))
		want := said(o) + saidAll(l)
		spoil(o, l)
		if whole(n, m) != before {
			t.Fatalf("P2: %s changes what is handed in, or does by what it told:\n%s\n%s", what, before, whole(n, m))
		}
		if o, l = ask(n, m, data); said(o)+saidAll(l) != want {
			t.Fatalf("P3: %s, twice, tells\n%s\nand\n%s", what, want, said(o)+saidAll(l))
		}
	}
}

func TestMemory(t *testing.T) {
	t.Parallel()
	d := &die{29}
	for i := range 50 {
		p := newPlay(d, 1+i%5)
		for range 100 {
			p.step()
			n := p.nodes[d.of(len(p.nodes))]
			m := api.Msg{Kind: api.MVote}
			if len(p.flight) > 0 {
				m = p.flight[d.of(len(p.flight))]
				n = p.nodes[m.To]
			}
			memoryHolds(t, n, m, "data")
			if len(p.nodes) > 1 {
				memoryHolds(t, n, d.bent(n, m), "data")
			}
		}
	}
}

// Of whatever may not be handed in, too (P8).
func TestMemoryOfWrong(t *testing.T) {
	d := &die{31}
	for range 3000 {
		memoryHolds(t, d.anyNode(), d.anyMsg(), "data")
	}
}

func TestMemoryOfNew(t *testing.T) {
	n, o := raft.New(1, 5, 1), raft.New(1, 5, 1)
	apart(t, "New", spansOf(o), spansOf(n))
	spoil(n, nil)
	same(t, "P2: New beside another", o, nil, begun(1, 5, 1))
	same(t, "P2: New behind another", raft.New(1, 5, 1), nil, begun(1, 5, 1))
}

// No list and an empty one are the same, handed in.
func TestNoList(t *testing.T) {
	n := raft.New(0, 2, 1)
	n.Log = []api.Entry{}
	for _, l := range [][]api.Entry{nil, {}} {
		m := api.Msg{Kind: api.MAppend, From: 1, To: 0, Term: 1, Entries: l}
		appendIs(t, "P2: no entries", n, m, nil, 0, api.Msg{Ok: true})
	}
	same(t, "P2: Restart with an empty log", raft.Restart(n, 1), nil, begun(0, 2, 1))
	if n = ticked(n, 5); n.Role != api.Candidate {
		t.Errorf("P802: %s", said(n))
	}
}

// Several at once do not touch one another, though they are handed the same (P7).
func TestSideBySide(t *testing.T) {
	n := roomy(but(leader(0, 3, 1, 1, 2), func(n *api.Node) { n.Clock++ }))
	m := matched(n, 1, 4, 2)
	want := map[string]string{}
	for what, ask := range asks() {
		o, l := ask(n, m, "x")
		want[what] = said(o) + saidAll(l)
	}
	done := make(chan bool)
	for range 8 {
		go func() {
			is := true
			for range 200 {
				for what, ask := range asks() {
					o, l := ask(n, m, "x")
					is = is && said(o)+saidAll(l) == want[what]
					spoil(o, l)
				}
			}
			done <- is
		}()
	}
	for range 8 {
		if !<-done {
			t.Error("P7: side by side they answer otherwise")
		}
	}
}
