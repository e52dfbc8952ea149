package coord_test

import (
	"fmt"
	"reflect"
	"slices"
	"strings"
	"testing"
	"unsafe"

	"federation/coord"
	"federation/shard"
)

// span is the memory of a list, with its spare room, or of a text.
type span struct{ from, to uintptr }

// spans are those of all lists and texts of x.
func spans(x reflect.Value) []span {
	var l []span
	switch x.Kind() {
	case reflect.String:
		if s := x.String(); s != "" {
			from := uintptr(unsafe.Pointer(unsafe.StringData(s)))
			l = append(l, span{from, from + uintptr(len(s))})
		}
	case reflect.Struct:
		for i := range x.NumField() {
			l = append(l, spans(x.Field(i))...)
		}
	case reflect.Slice:
		if size := uintptr(x.Cap()) * x.Type().Elem().Size(); size > 0 {
			l = append(l, span{x.Pointer(), x.Pointer() + size})
		}
		for i := range x.Len() {
			l = append(l, spans(x.Index(i))...)
		}
	}
	return l
}

// apart holds that of several things, all at hand at once, no two lists or texts have memory together.
func apart(t *testing.T, what string, things ...any) {
	t.Helper()
	var l []span
	for _, x := range things {
		l = append(l, spans(reflect.ValueOf(x))...)
	}
	slices.SortFunc(l, func(a, b span) int { return int(a.from) - int(b.from) })
	for i := 1; i < len(l); i++ {
		if l[i].from < l[i-1].to {
			t.Fatalf("P2: %s: what is answered shares memory", what)
		}
	}
}

// roomy is a copy of x, in memory of its own, whose lists have spare room with something in it.
func roomy[T any](x T) T {
	out := reflect.New(reflect.TypeOf(x)).Elem()
	makeRoomy(out, reflect.ValueOf(x))
	return out.Interface().(T)
}

func makeRoomy(out, x reflect.Value) {
	switch x.Kind() {
	case reflect.String:
		out.SetString(strings.Clone(x.String()))
	case reflect.Struct:
		for i := range x.NumField() {
			makeRoomy(out.Field(i), x.Field(i))
		}
	case reflect.Slice:
		l := reflect.MakeSlice(x.Type(), x.Len()+2, x.Len()+2)
		for i := range x.Len() {
			makeRoomy(l.Index(i), x.Index(i))
		}
		for i := x.Len(); i < l.Len(); i++ {
			spoil(l.Index(i))
		}
		out.Set(l.Slice(0, x.Len()))
	default:
		out.Set(x)
	}
}

// spoil changes all of x, and what stands in the spare room of its lists.
func spoil(x reflect.Value) {
	switch x.Kind() {
	case reflect.Bool:
		x.SetBool(!x.Bool())
	case reflect.Int:
		x.SetInt(-99)
	case reflect.String:
		x.SetString("spoilt")
	case reflect.Struct:
		for i := range x.NumField() {
			spoil(x.Field(i))
		}
	case reflect.Slice:
		l := x.Slice(0, x.Cap())
		for i := range l.Len() {
			spoil(l.Index(i))
		}
	}
}

// spare is x as a text, with what stands in the spare room of its lists.
func spare(x any) string {
	var b strings.Builder
	saySpare(&b, reflect.ValueOf(x))
	return b.String()
}

func saySpare(b *strings.Builder, x reflect.Value) {
	switch x.Kind() {
	case reflect.Struct:
		b.WriteString("{")
		for i := range x.NumField() {
			saySpare(b, x.Field(i))
		}
		b.WriteString("}")
	case reflect.Slice:
		fmt.Fprintf(b, "[%d:", x.Len())
		l := x.Slice(0, x.Cap())
		for i := range l.Len() {
			saySpare(b, l.Index(i))
		}
		b.WriteString("]")
	case reflect.String:
		fmt.Fprintf(b, "%q ", x.String())
	case reflect.Int:
		fmt.Fprintf(b, "%d ", x.Int())
	default:
		fmt.Fprintf(b, "%v ", x)
	}
}

// everyWay are transactions in all stages, with all that one may have.
func everyWay(t *testing.T, splits []string) []coord.Txn {
	t.Helper()
	all := both + "alter table t add foreign key (a) references t; update t set a = a + 0 where not b is null; select * from t;" +
		"select * from u; delete from u where a = -5; select count(*) from t;"
	begin := mixed(t, "create table v (a int not null, b text, primary key (a)); insert into v values (1, 'one');", "p", "p0002")
	var l []coord.Txn
	for _, x := range []coord.Txn{
		coord.New(7, "p0001", read(t, all)),
		coord.New(7, "", read(t, all+"drop table v;")),
		coord.New(7, "p0002", read(t, "drop table z;")),
		coord.New(7, "p0003", read(t, all+"drop table z;")),
		coord.Recover(7),
	} {
		w := newWorld(splits, begin)
		if x.Mend {
			w.shards[0].Made = []shard.Made{{Txn: 7, Commit: true, Writes: writes("a=1 ct=2 p0001 p3= rt ru=5")}}
		}
		for l = append(l, x); !x.Over; l = append(l, x) {
			w, x = w.stepped(t, x)
		}
	}
	return l
}

// tolds are answers of every kind, with all that one may have.
func tolds(t *testing.T) []shard.Told {
	t.Helper()
	l := mixed(t, both, "p", "p0002")
	return []shard.Told{
		{}, {Id: 7}, ok, has(l...), has(l[1:]...), has(pairs("p1=1 p2=2")...), has(pairs("p0001=1")...), has(pairs("x=1")...),
		made(7, true, writes("a=1 ct=2 p0001 p3= rt ru=5")...), made(7, false), {Pairs: l, Made: made(7, true, writes("z=9 p")...).Made},
	}
}

// What is handed in stays as it is, with its spare room, and what is answered lies in memory of its own, all of it.
func TestMemory(t *testing.T) {
	t.Parallel()
	for _, splits := range ways {
		splits = roomy(splits)
		for _, x := range everyWay(t, splits) {
			x = roomy(x)
			before := spare(x) + spare(splits)
			unchanged := func(what string) {
				t.Helper()
				if spare(x)+spare(splits) != before {
					t.Fatalf("P2: %s changes\n%s\nto\n%s", what, before, spare(x)+spare(splits))
				}
			}
			_, c, is := coord.Want(x, splits)
			_, c2, is2 := coord.Want(x, splits)
			unchanged("Want")
			apart(t, "Want", x, splits, c, c2)
			if is != is2 || saidCmd(c) != saidCmd(c2) {
				t.Fatal("P3: Want")
			}
			for _, a := range tolds(t) {
				a = roomy(a)
				was := spare(a)
				got, again := coord.Told(x, splits, a), coord.Told(x, splits, a)
				unchanged("Told")
				if spare(a) != was {
					t.Fatalf("P2: Told changes\n%s\nto\n%s", was, spare(a))
				}
				same(t, "P3: Told", got, again)
				apart(t, "Told", x, splits, a, got, again)
			}
		}
	}
}

func TestMemoryOfNew(t *testing.T) {
	mark := roomy("p0001")
	l := roomy(read(t, both+"update u set a = a + 1 where not (k = 'one' or a is null); alter table t add foreign key (a) references t; create table w (b bytes not null, primary key (b), unique (b), check (b < x'00'));"))
	before := spare(l)
	x, y := coord.New(1, mark, l), coord.New(1, mark, l)
	if spare(l) != before {
		t.Error("P2: New changes what it is handed")
	}
	apart(t, "New", l, mark, x, y)
	spoil(reflect.ValueOf(&l).Elem())
	same(t, "P2: New, when what was handed in is spoilt", x, y)
	spoil(reflect.ValueOf(&y).Elem())
	if spare(x.L) == spare(y.L) {
		t.Error("nothing is spoilt")
	}
}

func TestMemoryOfDiff(t *testing.T) {
	for _, x := range []struct{ a, b string }{{"", ""}, {"a=1", ""}, {"", "a=1"}, {"a=1 b=2 c=3", "a=1 b=3 d=4"}, {"b=2 a=1", "c=1 a=2"}} {
		a, b := roomy(pairs(x.a)), roomy(pairs(x.b))
		before := spare(a) + spare(b)
		l, again := coord.Diff(a, b), coord.Diff(a, b)
		if spare(a)+spare(b) != before {
			t.Errorf("P2: Diff changes %s to %s", before, spare(a)+spare(b))
		}
		if saidWrites(l) != saidWrites(again) {
			t.Errorf("P3: Diff: %s, %s", saidWrites(l), saidWrites(again))
		}
		apart(t, "Diff", a, b, l, again)
	}
	splits := roomy([]string{"b", "a"})
	before := spare(splits)
	if coord.Home(splits, "c"); spare(splits) != before {
		t.Error("P2: Home changes splits")
	}
}

// Nothing that was handed in or told changes a transaction: of two that go the same way all that one meets is spoilt
// behind it, what it was itself before among it.
func TestSpoilt(t *testing.T) {
	t.Parallel()
	d := &die{31}
	for range 400 {
		splits, begin := d.splits(), d.pairs(t)
		l := read(t, d.text())
		mark := one(d, "", "p0001", "p9")
		own := roomy(l)
		x, want := coord.New(3, mark, own), coord.New(3, mark, l)
		if d.of(5) == 0 {
			x, want = coord.Recover(3), coord.Recover(3)
		}
		spoil(reflect.ValueOf(&own).Elem())
		for !want.Over {
			_, c, _ := coord.Want(x, splits)
			a := roomy(d.answer(c, begin))
			if want.Stage == 0 {
				a = has(home(begin, splits, want.Shard)...)
			}
			mine, mySplits := roomy(a), roomy(splits)
			next := coord.Told(x, mySplits, mine)
			for _, place := range []reflect.Value{reflect.ValueOf(&x), reflect.ValueOf(&mine), reflect.ValueOf(&mySplits), reflect.ValueOf(&c)} {
				spoil(place.Elem())
			}
			x, want = next, coord.Told(want, splits, a)
			same(t, "P2: beside what is spoilt", x, want)
			_, asked, _ := coord.Want(want, splits)
			if _, got, _ := coord.Want(x, splits); saidCmd(got) != saidCmd(asked) {
				t.Errorf("P2: beside what is spoilt: Want: %s, not %s", saidCmd(got), saidCmd(asked))
			}
			if t.Failed() {
				return
			}
		}
	}
}

// No list of a transaction is another's: each place that is changed by itself changes nothing else.
func TestListsApart(t *testing.T) {
	for _, x := range everyWay(t, ways[3]) {
		l := spans(reflect.ValueOf(coord.Told(x, ways[3], ok)))
		slices.SortFunc(l, func(a, b span) int { return int(a.from) - int(b.from) })
		for i := 1; i < len(l); i++ {
			if l[i].from < l[i-1].to {
				t.Fatalf("P2: two lists share memory: %s", said(x))
			}
		}
	}
}

// Several at once do not touch one another, though they are handed the same (P2).
func TestSideBySide(t *testing.T) {
	splits := roomy(ways[3])
	l := roomy(everyWay(t, splits))
	all := roomy(tolds(t))
	play := func() string {
		var b strings.Builder
		for _, x := range l {
			at, c, is := coord.Want(x, splits)
			fmt.Fprint(&b, at, saidCmd(c), is)
			for _, a := range all {
				y := coord.Told(x, splits, a)
				b.WriteString(said(y))
				spoil(reflect.ValueOf(&y).Elem())
			}
			b.WriteString(saidWrites(coord.Diff(x.Pairs, all[3].Pairs)) + said(coord.New(1, x.Mark, x.L)))
		}
		return b.String()
	}
	want := play()
	done := make(chan string)
	for range 8 {
		go func() { done <- play() }()
	}
	for range 8 {
		if got := <-done; got != want {
			t.Error("P2: side by side something else is answered")
		}
	}
}
