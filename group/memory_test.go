package group_test

import (
	"fmt"
	"reflect"
	"slices"
	"testing"
	"unsafe"

	"federation/api"
	"federation/group"
)

// span is the memory of a list, with its spare room, or of a text.
type span struct{ from, to uintptr }

// spans are those of all lists and texts of x.
func spans(x reflect.Value) []span {
	var l []span
	switch x.Kind() {
	case reflect.String:
		if s := x.String(); s != "" {
			from := uintptr(unsafe.Pointer(unsafe.StringData(s)))
			l = append(l, span{from, from + uintptr(len(s))})
		}
	case reflect.Struct:
		for i := range x.NumField() {
			l = append(l, spans(x.Field(i))...)
		}
	case reflect.Slice:
		if size := uintptr(x.Cap()) * x.Type().Elem().Size(); size > 0 {
			l = append(l, span{x.Pointer(), x.Pointer() + size})
		}
		for i := range x.Len() {
			l = append(l, spans(x.Index(i))...)
		}
	}
	return l
}

// apart holds that several answers, all at hand at once, have no memory together.
func apart(t *testing.T, what string, answers ...any) {
	t.Helper()
	var l []span
	for _, x := range answers {
		l = append(l, spans(reflect.ValueOf(x))...)
	}
	slices.SortFunc(l, func(a, b span) int { return int(a.from) - int(b.from) })
	for i := 1; i < len(l); i++ {
		if l[i].from < l[i-1].to {
			t.Fatalf("P2: %s: two answers share memory", what)
		}
	}
}

// spoil changes all that was told, and what stands in its spare room.
func spoil(n api.Node, applied []string) {
	log := n.Log[:cap(n.Log)]
	for i := range log {
		log[i] = api.Entry{Term: -99, Data: "spoilt"}
	}
	for _, k := range [][]int{n.Next, n.Match, n.Forms} {
		k = k[:cap(k)]
		for i := range k {
			k[i] = -55
		}
	}
	votes := n.Votes[:cap(n.Votes)]
	for i := range votes {
		votes[i] = !votes[i]
	}
	applied = applied[:cap(applied)]
	for i := range applied {
		applied[i] = "spoilt"
	}
}

// Nothing that was told changes the group when it is changed (P2), and all is told again (P3): two groups go through
// the same play, and of one all that it tells is spoilt.
func TestSpoilt(t *testing.T) {
	t.Parallel()
	d := &die{61}
	for i := range 60 {
		size := 1 + i%5
		g, w := group.New(size), group.New(size)
		for step := range 300 {
			word := d.word(w, size, step)
			if got, want := do(g, word), do(w, word); got != want {
				t.Fatalf("P3: %s answers %s, and %s", word, got, want)
			}
			for id := range size {
				n, _ := g.Node(id)
				m, _ := g.Node(id)
				l, k := g.Applied(id), g.Applied(id)
				apart(t, "twice", n, m, l, k)
				spoil(n, l)
			}
			if got, want := told(g, size), told(w, size); got != want {
				t.Fatalf("P2: what was told changes\n%s\nto\n%s", want, got)
			}
		}
	}
}

// What is handed in is not kept: its memory may become something else.
func TestDataNotKept(t *testing.T) {
	for size := 1; size <= 5; size++ {
		g := after(size, leads0(size))
		room := []byte("data")
		if !g.Propose(0, unsafe.String(&room[0], len(room))) || string(room) != "data" {
			t.Fatal("P901: a Leader does not propose")
		}
		copy(room, "xxxx")
		quiet(g, size, 5)
		copy(room, "yyyy")
		for id := range size {
			applied(t, g, id, "data")
			if n := node(t, g, id); n.Log[1].Data != "data" {
				t.Errorf("P2: %s", said(n))
			}
		}
	}
}

// Several groups do not touch one another, also when they are asked side by side (P7).
func TestSideBySide(t *testing.T) {
	play := func() string {
		d, g, all := &die{67}, group.New(3), ""
		for step := range 200 {
			all += do(g, d.word(g, 3, step))
			n, _ := g.Node(0)
			spoil(n, g.Applied(0))
		}
		return all + told(g, 3)
	}
	want := play()
	done := make(chan string)
	for range 8 {
		go func() { done <- play() }()
	}
	for range 8 {
		if got := <-done; got != want {
			t.Errorf("P7: side by side\n%s\nis\n%s", want, got)
		}
	}
}

// Those made one behind the other neither: each New is another one.
func TestNewIsNew(t *testing.T) {
	g, w := group.New(3), group.New(3)
	script(g, leads0(3)+" p0:a c1")
	if got, want := told(w, 3), told(group.New(3), 3); got != want || g == w {
		t.Errorf("P7: one group touches another: %s", got)
	}
	if fmt.Sprint(g.Up(1), w.Up(1)) != "false true" {
		t.Error("P7: one group touches another")
	}
}
