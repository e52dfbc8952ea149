package dump_test

import (
	"fmt"
	"reflect"
	"slices"
	"testing"
	"unsafe"

	"federation/api"
	"federation/dump"
)

// span is the memory of a list, with its spare room, or of a text.
type span struct {
	from, to uintptr
	isText   bool
}

func (s span) meets(other span) bool { return s.from < other.to && other.from < s.to }

// spans are those of all lists and texts of x.
func spans(x reflect.Value) []span {
	var l []span
	switch x.Kind() {
	case reflect.String:
		if s := x.String(); s != "" {
			from := uintptr(unsafe.Pointer(unsafe.StringData(s)))
			l = append(l, span{from, from + uintptr(len(s)), true})
		}
	case reflect.Struct:
		for i := range x.NumField() {
			l = append(l, spans(x.Field(i))...)
		}
	case reflect.Slice:
		if size := uintptr(x.Cap()) * x.Type().Elem().Size(); size > 0 {
			l = append(l, span{x.Pointer(), x.Pointer() + size, false})
		}
		for i := range x.Len() {
			l = append(l, spans(x.Index(i))...)
		}
	}
	return l
}

func spansOf(l ...any) []span {
	var out []span
	for _, x := range l {
		out = append(out, spans(reflect.ValueOf(x))...)
	}
	return out
}

// apart holds that an answer lies in memory of its own, and so does each of its lists (P2).
func apart(t *testing.T, what string, given, answered []span) {
	t.Helper()
	for i, a := range answered {
		for _, g := range given {
			if a.meets(g) {
				t.Fatalf("P2: %s: an answer shares memory with what was handed in (text: %v)", what, a.isText)
			}
		}
		for _, other := range answered[:i] {
			if a.meets(other) && !a.isText && !other.isText {
				t.Fatalf("P2: %s: two lists of an answer share memory", what)
			}
		}
	}
}

// roomy is a copy of x, in memory of its own, whose lists have spare room with something in it.
func roomy[T any](x T) T { return roomyValue(reflect.ValueOf(x)).Interface().(T) }

func roomyValue(x reflect.Value) reflect.Value {
	out := reflect.New(x.Type()).Elem()
	switch x.Kind() {
	case reflect.String:
		out.SetString(string([]byte(x.String())))
	case reflect.Struct:
		for i := range x.NumField() {
			out.Field(i).Set(roomyValue(x.Field(i)))
		}
	case reflect.Slice:
		n := x.Len()
		out.Set(reflect.MakeSlice(x.Type(), n+3, n+3))
		for i := range n {
			out.Index(i).Set(roomyValue(x.Index(i)))
		}
		for i := n; i < n+3; i++ {
			fill(out.Index(i))
		}
		out.SetLen(n)
	default:
		out.Set(x)
	}
	return out
}

// fill puts what nothing else is.
func fill(x reflect.Value) {
	switch x.Kind() {
	case reflect.String:
		x.SetString("spare")
	case reflect.Int:
		x.SetInt(777)
	case reflect.Struct:
		for i := range x.NumField() {
			if x.Field(i).Kind() != reflect.Slice {
				fill(x.Field(i))
			}
		}
	}
}

// whole is x as a text, with the spare room of its lists.
func whole(x any) string { return fmt.Sprint(wholeValue(reflect.ValueOf(x))) }

func wholeValue(x reflect.Value) any {
	switch x.Kind() {
	case reflect.Struct:
		var l []any
		for i := range x.NumField() {
			l = append(l, wholeValue(x.Field(i)))
		}
		return l
	case reflect.Slice:
		l := []any{x.Len()}
		for i := range x.Cap() {
			l = append(l, wholeValue(x.Slice(0, x.Cap()).Index(i)))
		}
		return l
	}
	return x.Interface()
}

// What is handed in stays as it is, with its spare room; what is answered is new (P2).
func TestMemory(t *testing.T) {
	t.Parallel()
	d := &die{5}
	for range 60 {
		tabs := roomy(d.tables(t, d.of(120)))
		before, held := whole(tabs), spansOf(tabs)
		apart(t, "Order", held, spansOf(dump.Order(tabs)))
		made := dump.Dump(tabs, 1+d.of(5))
		apart(t, "Dump", held, spansOf(made))
		if whole(tabs) != before {
			t.Fatal("P2: Order or Dump changes what was handed in")
		}
		chunks := roomy(made)
		beforeC, heldC := whole(chunks), spansOf(chunks)
		l := roomy(marks(7777))
		for at := range chunks {
			beforeL, heldL := whole(l), spansOf(l)
			next, e := dump.Apply(l, chunks, at)
			if e != api.OK {
				t.Fatalf("P603: %v", e)
			}
			apart(t, "Apply", slices.Concat(heldL, heldC), spansOf(next))
			again, _ := dump.Apply(next, chunks, at)
			apart(t, "Apply of what is in", slices.Concat(spansOf(next), heldC), spansOf(again))
			left := dump.Left(l, chunks)
			apart(t, "Left", slices.Concat(heldL, heldC), spansOf(left))
			dump.Apply(l, chunks, len(chunks)-1)
			dump.Finish(l, chunks)
			if whole(l) != beforeL || whole(chunks) != beforeC {
				t.Fatal("P2: Apply, Left or Finish changes what was handed in")
			}
			l = roomy(next)
		}
		beforeL := whole(l)
		end, e := dump.Finish(l, chunks)
		if e != api.OK || whole(l) != beforeL || whole(chunks) != beforeC {
			t.Fatalf("P2: Finish: %v", e)
		}
		apart(t, "Finish", spansOf(l, chunks), spansOf(end))
	}
}

// What is done with an answer is not seen in another one (P2, P3).
func TestAnswersAreNotKept(t *testing.T) {
	d := made(t, "create table t (a int not null, primary key (a), foreign key (a) references t)", "insert into t values (1)")
	chunks := dump.Dump(d, 1)
	want := said(chunks)
	dump.Order(d)[0] = "x"
	chunks[0], chunks[1].Phase = api.Chunk{}, 9
	if got := said(dump.Dump(d, 1)); got != want {
		t.Errorf("P3: %s, not %s", got, want)
	}
	chunks = dump.Dump(d, 1)
	l := brings(t, nil, chunks, 0, api.OK)
	before := fmt.Sprintf("%q", l)
	again := brings(t, l, chunks, 0, api.OK)
	again[0] = api.Pair{}
	_ = append(again[:1], api.Pair{K: "x"})
	next := brings(t, l, chunks, 1, api.OK)
	next[1] = api.Pair{}
	dump.Left(l, chunks)[0] = 9
	if got := fmt.Sprintf("%q", l); got != before {
		t.Errorf("P2: %s, not %s", got, before)
	}
	if left := dump.Left(l, chunks); fmt.Sprint(left) != "[1 2]" {
		t.Errorf("P3: %v is left", left)
	}
}
