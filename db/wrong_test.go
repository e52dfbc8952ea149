package db_test

import (
	"math"
	"reflect"
	"strings"
	"testing"

	"federation/api"
	"federation/db"
)

// spoil changes something somewhere in x, to what may not be.
func (d *die) spoil(x reflect.Value) {
	switch x.Kind() {
	case reflect.String:
		x.SetString(one(d, "", "t", "a", "A", "\x00", "select", "t (a", strings.Repeat("x", 50)))
	case reflect.Int:
		x.SetInt(int64(one(d, math.MinInt, -1, 0, 1, 2, 3, 5, 6, 7, 15, 99, math.MaxInt)))
	case reflect.Bool:
		x.SetBool(!x.Bool())
	case reflect.Struct:
		d.spoil(x.Field(d.of(x.NumField())))
	case reflect.Slice:
		d.spoilList(x)
	}
}

func (d *die) spoilList(x reflect.Value) {
	n := x.Len()
	if n == 0 || d.of(8) == 0 {
		x.Set(reflect.Append(x.Slice3(0, n, n), reflect.Zero(x.Type().Elem())))
		return
	}
	i, k := d.of(n), d.of(n)
	switch d.of(8) {
	case 0:
		x.Set(x.Slice(0, i))
	case 1:
		x.Set(x.Slice(i, n))
	case 2:
		x.Set(reflect.Append(x.Slice3(0, n, n), x.Index(i)))
	case 3:
		reflect.Swapper(x.Interface())(i, k)
	default:
		d.spoil(x.Index(i))
	}
}

// Whatever is handed in, the calls end and do not panic (P1), do not change it (P2), and answer the same again (P3).
func TestWrongOnes(t *testing.T) {
	t.Parallel()
	d := &die{9}
	for range 120 {
		var tabs []api.Tab
		for range d.of(60) {
			tabs, _ = lawExec(tabs, d.read(tabs))
		}
		for range 40 {
			given, s := roomy(tabs), roomy(d.read(tabs))
			for range d.of(4) {
				d.spoil(reflect.ValueOf(&given).Elem())
			}
			for range d.of(3) {
				d.spoil(reflect.ValueOf(&s).Elem())
			}
			before, beforeS := whole(given), whole(s)
			next, a := db.Exec(given, s)
			again, b := db.Exec(given, s)
			if shown(next) != shown(again) || told(a) != told(b) {
				t.Fatalf("P3: Exec of %v: %v, %v", s, a, b)
			}
			if a.E != api.OK && (a.N != 0 || len(a.Rows) > 0) {
				t.Fatalf("P4: Exec of %v: %v", s, a)
			}
			apart(t, "Exec", spansOf(given, s), spansOf(next, a.Rows))
			db.All(given, []api.Stmt{s, s})
			db.Load(db.Store(given))
			for _, x := range given {
				if got := db.Right(x.T); got != lawRight(x.T) {
					t.Fatalf("P501: Right of %v: %v", x.T, got)
				}
			}
			if whole(given) != before || whole(s) != beforeS {
				t.Fatalf("P2: Exec of %v changes what was handed in", s)
			}
		}
	}
}

// A statement of no kind is refused.
func TestStatementsOfNoKind(t *testing.T) {
	d := made(t, "create table t (a int not null, primary key (a))", "insert into t values (1)")
	for _, kind := range []int{math.MinInt, -1, 0, 9, 99, math.MaxInt} {
		for _, name := range []string{"", "t", "z"} {
			s := api.Stmt{Kind: kind, Name: name, T: d[0].T, Col: "a", To: "t", Row: []api.Value{num(2)}, E: lit(num(2))}
			next, a := db.Exec(d, s)
			if !same(next, d) || a.E == api.OK {
				t.Errorf("P8: %v: %v, %v", s, next, a)
			}
			if next, at, e := db.All(d, []api.Stmt{s}); !same(next, d) || at != 0 || e != a.E {
				t.Errorf("P8: %v: %v, %d, %v", s, next, at, e)
			}
		}
	}
}

// Any texts are refused or read, and Load ends (P1).
func TestLoadOfAnyTexts(t *testing.T) {
	d := &die{10}
	for range 20000 {
		var l []api.Pair
		for range d.of(5) {
			p := pair(one(d, "c", "r", "ct", "rt", "rt\x00", "", "p"), one(d, "", "create table t (a int not null, primary key (a))", "\x01\x00", "\x00", "\x0a"))
			for range d.of(3) {
				p.K += one(d, "t", "\x00", "\x02", "a", "\x01")
				p.V += one(d, "t", "\x00", "\x02", ")", " ")
			}
			l = append(l, p)
		}
		want, wantIs := lawLoad(l)
		if got, is := db.Load(l); is != wantIs || is && !same(got, want) || !is && len(got) > 0 {
			t.Fatalf("P503: Load of %q: %v, %v", l, got, is)
		}
	}
	none(t, pair("ct", strings.Repeat(" ", 5000)), pair("rt", strings.Repeat("\x00", 5000)))
	none(t, pair(strings.Repeat("c", 1<<20), strings.Repeat("create ", 1<<20)))
}
