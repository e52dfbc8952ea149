package shard_test

import (
	"fmt"
	"reflect"
	"slices"
	"strings"
	"testing"
	"unsafe"

	"federation/shard"
)

// span is the memory of a list, with its spare room, or of a text.
type span struct{ from, to uintptr }

// spans are those of all lists and texts of x.
func spans(x reflect.Value) []span {
	var l []span
	switch x.Kind() {
	case reflect.String:
		if s := x.String(); s != "" {
			from := uintptr(unsafe.Pointer(unsafe.StringData(s)))
			l = append(l, span{from, from + uintptr(len(s))})
		}
	case reflect.Struct:
		for i := range x.NumField() {
			l = append(l, spans(x.Field(i))...)
		}
	case reflect.Slice:
		if size := uintptr(x.Cap()) * x.Type().Elem().Size(); size > 0 {
			l = append(l, span{x.Pointer(), x.Pointer() + size})
		}
		for i := range x.Len() {
			l = append(l, spans(x.Index(i))...)
		}
	}
	return l
}

// apart holds that of several things, all at hand at once, no two lists or texts have memory together.
func apart(t *testing.T, what string, things ...any) {
	t.Helper()
	var l []span
	for _, x := range things {
		l = append(l, spans(reflect.ValueOf(x))...)
	}
	slices.SortFunc(l, func(a, b span) int { return int(a.from) - int(b.from) })
	for i := 1; i < len(l); i++ {
		if l[i].from < l[i-1].to {
			t.Fatalf("P2: %s: what is answered shares memory", what)
		}
	}
}

// roomy is a copy of x, in memory of its own, whose lists have spare room with something in it.
func roomy[T any](x T) T {
	out := reflect.New(reflect.TypeOf(x)).Elem()
	makeRoomy(out, reflect.ValueOf(x))
	return out.Interface().(T)
}

func makeRoomy(out, x reflect.Value) {
	switch x.Kind() {
	case reflect.String:
		out.SetString(strings.Clone(x.String()))
	case reflect.Struct:
		for i := range x.NumField() {
			makeRoomy(out.Field(i), x.Field(i))
		}
	case reflect.Slice:
		l := reflect.MakeSlice(x.Type(), x.Len()+2, x.Len()+2)
		for i := range x.Len() {
			makeRoomy(l.Index(i), x.Index(i))
		}
		for i := x.Len(); i < l.Len(); i++ {
			spoil(l.Index(i))
		}
		out.Set(l.Slice(0, x.Len()))
	default:
		out.Set(x)
	}
}

// spoil changes all of x, and what stands in the spare room of its lists.
func spoil(x reflect.Value) {
	switch x.Kind() {
	case reflect.Bool:
		x.SetBool(!x.Bool())
	case reflect.Int:
		x.SetInt(-99)
	case reflect.String:
		x.SetString("spoilt")
	case reflect.Struct:
		for i := range x.NumField() {
			spoil(x.Field(i))
		}
	case reflect.Slice:
		l := x.Slice(0, x.Cap())
		for i := range l.Len() {
			spoil(l.Index(i))
		}
	}
}

// spare is x as a text, and what stands in the spare room of its lists, outermost ones alone.
func spare(s shard.State) string {
	return said(s) + fmt.Sprint("; spare ", s.Pairs[:cap(s.Pairs)], s.Made[:cap(s.Made)], s.Told[:cap(s.Told)], s.Notes[:cap(s.Notes)])
}

// What is handed in stays as it is, with its spare room, and what is answered lies in memory of its own, all of it.
func TestMemoryOfApply(t *testing.T) {
	t.Parallel()
	d := &die{61}
	states := append(whole(), shard.State{Stopped: true, Pairs: pairs("a=1"), Notes: []string{"x"}})
	for range 100 {
		states = append(states, shard.Replay(2, d.log(t, d.of(40))))
	}
	for _, s := range states {
		s = roomy(s)
		before := spare(s)
		for _, c := range append(kinds(), d.command(30), d.command(30)) {
			data := bytes(t, c, 2)
			for form := 1; form <= 2; form++ {
				got, again := shard.Apply(s, form, data), shard.Apply(s, form, data)
				if spare(s) != before {
					t.Fatalf("P2: Apply of %v changes\n%s\nto\n%s", c, before, spare(s))
				}
				if said(got) != said(again) {
					t.Fatalf("P3: Apply of %v: %s, then %s", c, said(got), said(again))
				}
				apart(t, fmt.Sprintf("Apply of %v to %s", c, before), s, data, got, again)
			}
		}
	}
}

func TestMemoryOfReplay(t *testing.T) {
	t.Parallel()
	d := &die{67}
	for range 200 {
		l := roomy(d.log(t, d.of(50)))
		before := fmt.Sprintf("%q", l[:cap(l)])
		for form := 1; form <= 2; form++ {
			got, again := shard.Replay(form, l), shard.Replay(form, l)
			if fmt.Sprintf("%q", l[:cap(l)]) != before {
				t.Fatalf("P2: Replay changes %s", before)
			}
			apart(t, "Replay of "+before, l, got, again)
			for _, told := range got.Told {
				x, _ := shard.Answer(got, told.Id)
				y, _ := shard.Answer(got, told.Id)
				apart(t, "Answer", got, x, y)
			}
			spoil(reflect.ValueOf(&got).Elem())
			same(t, "Replay, when one answer was spoilt", shard.Replay(form, l), again)
		}
	}
}

// Nothing that was told changes the state, nor anything else that was told: of two states that go the same way all that
// one tells is spoilt, the states that it was before among it.
func TestSpoilt(t *testing.T) {
	t.Parallel()
	d := &die{71}
	for range 200 {
		var s, want shard.State
		for _, data := range d.log(t, 40) {
			next := shard.Apply(s, 2, data)
			spoil(reflect.ValueOf(&s).Elem())
			s, want = next, shard.Apply(want, 2, data)
			for _, told := range want.Told {
				x, _ := shard.Answer(s, told.Id)
				spoil(reflect.ValueOf(&x).Elem())
			}
			same(t, "beside what was spoilt", s, want)
		}
		if t.Failed() {
			return
		}
	}
}

// No list of a state is another's: each thing that is changed by itself changes nothing else.
func TestListsApart(t *testing.T) {
	l := log(t,
		decide(1, 1, commit, put("a", "1"), put("b", "2")), decide(2, 1, not), lock(3, 2),
		finish(4, 2, commit, put("a", "1"), put("b", "2")), lock(5, 3), lock(6, 3), gate(7), note(8, "n"))
	whole := shard.Replay(2, l)
	for _, change := range []func(s *shard.State) *string{
		func(s *shard.State) *string { return &s.Pairs[0].K },
		func(s *shard.State) *string { return &s.Pairs[1].V },
		func(s *shard.State) *string { return &s.Made[0].Writes[0].K },
		func(s *shard.State) *string { return &s.Told[0].Made.Writes[1].V },
		func(s *shard.State) *string { return &s.Told[1].Made.Writes[0].K },
		func(s *shard.State) *string { return &s.Told[4].Pairs[0].K },
		func(s *shard.State) *string { return &s.Told[5].Pairs[1].V },
		func(s *shard.State) *string { return &s.Notes[0] },
	} {
		for _, s := range []shard.State{shard.Replay(2, l), applied(2, l...), shard.Apply(whole, 2, l[0])} {
			place := change(&s)
			was := *place
			*place = "spoilt"
			if said(s) == said(whole) {
				t.Fatal("nothing is spoilt")
			}
			*change(&s) = was
			same(t, "put right again", s, whole)
		}
	}
}

// What is handed in is not kept: the memory of data may become something else.
func TestDataNotKept(t *testing.T) {
	var s shard.State
	l := log(t, gate(1), lock(2, 1), decide(3, 1, commit, put("a", "1")), finish(4, 1, commit, put("a", "1")), note(5, "text"), lock(6, 2))
	for _, data := range l {
		room := []byte(data)
		s = shard.Apply(s, 2, unsafe.String(&room[0], len(room)))
		if string(room) != data {
			t.Fatalf("P2: %q is changed", data)
		}
		clear(room)
	}
	same(t, "when data are gone", s, applied(2, l...))
}

// Several at once do not touch one another, though they are handed the same (P2).
func TestSideBySide(t *testing.T) {
	d := &die{73}
	l := d.log(t, 60)
	s := roomy(shard.Replay(2, l))
	data := bytes(t, finish(1000, 0, commit, put("a", "9"), gone("b")), 1)
	play := func() string {
		x := shard.Apply(s, 2, data)
		y, _ := shard.Answer(s, 1)
		all := said(x) + saidTold(y) + said(shard.Replay(2, l))
		spoil(reflect.ValueOf(&x).Elem())
		return all
	}
	want := play()
	done := make(chan string)
	for range 8 {
		go func() { done <- play() }()
	}
	for range 8 {
		if got := <-done; got != want {
			t.Errorf("P2: side by side\n%s\nis\n%s", want, got)
		}
	}
}
