package db_test

import (
	"fmt"
	"reflect"
	"slices"
	"testing"
	"unsafe"

	"federation/api"
	"federation/db"
	"federation/sql"
)

// span is the memory of a list, with its spare room, or of a text.
type span struct {
	from, to uintptr
	isText   bool
}

func (s span) meets(other span) bool { return s.from < other.to && other.from < s.to }

// spans are those of all lists and texts of x.
func spans(x reflect.Value) []span {
	var l []span
	switch x.Kind() {
	case reflect.String:
		if s := x.String(); s != "" {
			from := uintptr(unsafe.Pointer(unsafe.StringData(s)))
			l = append(l, span{from, from + uintptr(len(s)), true})
		}
	case reflect.Struct:
		for i := range x.NumField() {
			l = append(l, spans(x.Field(i))...)
		}
	case reflect.Slice:
		if size := uintptr(x.Cap()) * x.Type().Elem().Size(); size > 0 {
			l = append(l, span{x.Pointer(), x.Pointer() + size, false})
		}
		for i := range x.Len() {
			l = append(l, spans(x.Index(i))...)
		}
	}
	return l
}

func spansOf(l ...any) []span {
	var out []span
	for _, x := range l {
		out = append(out, spans(reflect.ValueOf(x))...)
	}
	return out
}

// apart holds that an answer lies in memory of its own, and so does each of its lists (P2).
func apart(t *testing.T, what string, given, answered []span) {
	t.Helper()
	for i, a := range answered {
		for _, g := range given {
			if a.meets(g) {
				t.Fatalf("P2: %s: an answer shares memory with what was handed in (text: %v)", what, a.isText)
			}
		}
		for _, other := range answered[:i] {
			if a.meets(other) && !a.isText && !other.isText {
				t.Fatalf("P2: %s: two lists of an answer share memory", what)
			}
		}
	}
}

// roomy is a copy of x, in memory of its own, whose lists have spare room with something in it.
func roomy[T any](x T) T { return roomyValue(reflect.ValueOf(x)).Interface().(T) }

func roomyValue(x reflect.Value) reflect.Value {
	out := reflect.New(x.Type()).Elem()
	switch x.Kind() {
	case reflect.String:
		out.SetString(string([]byte(x.String())))
	case reflect.Struct:
		for i := range x.NumField() {
			out.Field(i).Set(roomyValue(x.Field(i)))
		}
	case reflect.Slice:
		n := x.Len()
		out.Set(reflect.MakeSlice(x.Type(), n+3, n+3))
		for i := range n {
			out.Index(i).Set(roomyValue(x.Index(i)))
		}
		for i := n; i < n+3; i++ {
			fill(out.Index(i))
		}
		out.SetLen(n)
	default:
		out.Set(x)
	}
	return out
}

// fill puts what nothing else is.
func fill(x reflect.Value) {
	switch x.Kind() {
	case reflect.String:
		x.SetString("spare")
	case reflect.Int:
		x.SetInt(777)
	case reflect.Struct:
		for i := range x.NumField() {
			if x.Field(i).Kind() != reflect.Slice {
				fill(x.Field(i))
			}
		}
	}
}

// whole is x as a text, with the spare room of its lists.
func whole(x any) string { return fmt.Sprint(wholeValue(reflect.ValueOf(x))) }

func wholeValue(x reflect.Value) any {
	switch x.Kind() {
	case reflect.Struct:
		var l []any
		for i := range x.NumField() {
			l = append(l, wholeValue(x.Field(i)))
		}
		return l
	case reflect.Slice:
		l := []any{x.Len()}
		for i := range x.Cap() {
			l = append(l, wholeValue(x.Slice(0, x.Cap()).Index(i)))
		}
		return l
	}
	return x.Interface()
}

// What is handed in stays as it is, with its spare room; what is answered is new (P2).
func TestMemory(t *testing.T) {
	t.Parallel()
	d := &die{8}
	seen := map[int]int{}
	for range 60 {
		var tabs []api.Tab
		for range 60 {
			given, s := roomy(tabs), roomy(d.read(tabs))
			before, beforeS := whole(given), whole(s)
			held := spansOf(given, s)
			what := sql.Text(s)

			next, a := db.Exec(given, s)
			apart(t, what, held, spansOf(next, a.Rows))
			all, _, _ := db.All(given, []api.Stmt{s})
			apart(t, "All: "+what, held, spansOf(all))
			if !same(all, next) {
				t.Fatalf("P503: %s: %v, not %v", what, all, next)
			}
			stored := db.Store(given)
			apart(t, "Store", held, spansOf(stored))
			l := roomy(stored)
			beforeL := whole(l)
			loaded, is := db.Load(l)
			if !is || whole(l) != beforeL {
				t.Fatalf("P2: Load: %v", is)
			}
			apart(t, "Load", spansOf(l), spansOf(loaded))
			if s.Kind == api.SCreate {
				db.Right(s.T)
			}
			if whole(given) != before || whole(s) != beforeS {
				t.Fatalf("P2: %s changes what was handed in", what)
			}
			if a.E == api.OK {
				seen[s.Kind]++
			}
			tabs = next
		}
	}
	for kind := api.SCreate; kind <= api.SCount; kind++ {
		if seen[kind] < 20 {
			t.Errorf("too few are thrown: %v", seen)
		}
	}
}

// What is done with an answer is not seen in another one (P2, P3).
func TestAnswersAreNotKept(t *testing.T) {
	d := made(t, "create table t (a int not null, b text, primary key (a), unique (b), check (a < 5), foreign key (a) references t)", "insert into t values (1, 'x')", "insert into t values (2, 'y')")
	s := read(t, "select * from t")
	before := shown(d)
	next, a := db.Exec(d, s)
	a.Rows[0][0] = num(77)
	a.Rows = append(a.Rows[:1], nil)
	next[0].Rows[1][1] = text("z")
	next[0].T.Cols[0].Name, next[0].T.Unique[0], next[0].T.Links[0].Col = "q", 0, 1
	next[0].T.Check.L[0].Name = "q"
	next[0].Rows = slices.Insert(next[0].Rows, 0, []api.Value{num(0), {}})
	if shown(d) != before {
		t.Errorf("P2: %s, not %s", shown(d), before)
	}
	if _, again := db.Exec(d, s); told(again) != "ok 0 (1, 'x')(2, 'y')" {
		t.Errorf("P3: %s", told(again))
	}
}
