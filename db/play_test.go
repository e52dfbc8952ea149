package db_test

import (
	"fmt"
	"math"
	"reflect"
	"strings"
	"testing"

	"federation/api"
	"federation/db"
	"federation/sql"
)

// named is a table's name, now and then of one that is not there.
func (d *die) named(tabs []api.Tab) string {
	if len(tabs) > 0 && d.of(12) > 0 {
		return one(d, tabs...).T.Name
	}
	return one(d, "t", "t0", "t1", "t2", "ab", "a", "z_9")
}

// value is one of few of a type, so that many are alike; null now and then.
func (d *die) value(kind int) api.Value {
	if d.of(6) == 0 {
		return api.Value{}
	}
	switch kind {
	case api.TBool:
		return flag(d.of(2))
	case api.TInt:
		return num(one(d, -1, 0, 1, 2, 3, 4, 5, 6, 7, 8, 9, 10, d.of(200), math.MaxInt, math.MinInt))
	case api.TDec:
		return one(d, dec(-1, 0), dec(0, 0), dec(5, 1), dec(1, 0), dec(15, 1), dec(2, 0), dec(999_999_999_999_999, 0), dec(1, 6))
	case api.TText:
		return text(one(d, "", "a", "b", "c", "d", "e", "ab", "it's", strings.Repeat("x", 40)))
	}
	return raw(one(d, "", "\x00", "\x00\x00", "\x01", "\xff", "a"))
}

// column is the name of a column of a type; now and then of none, or of another type.
func (d *die) column(t api.Table, kind int) string {
	for range 10 {
		if len(t.Cols) == 0 {
			break
		}
		if c := one(d, t.Cols...); c.Type == kind || d.of(30) == 0 {
			return c.Name
		}
	}
	return "zz"
}

// expr is an expression of a type, most of the time.
func (d *die) expr(t api.Table, kind, deep int) api.Expr {
	switch {
	case d.of(40) == 0:
		return d.expr(t, 1+d.of(5), deep)
	case deep == 0 || kind >= api.TText:
		if x := col(d.column(t, kind)); x.Name != "zz" && d.of(4) > 0 || d.of(60) == 0 {
			return x
		}
		return lit(d.value(kind))
	case kind == api.TBool:
		below := one(d, api.TInt, api.TInt, api.TText, 1+d.of(5))
		switch up := one(d, api.XNot, api.XIsNull, api.XEq, api.XNe, api.XLt, api.XLt, api.XLe, api.XAnd, api.XOr); up {
		case api.XNot:
			return of(up, d.expr(t, kind, deep-1))
		case api.XIsNull:
			return of(up, d.expr(t, below, deep-1))
		case api.XAnd, api.XOr:
			return of(up, d.expr(t, kind, deep-1), d.expr(t, kind, deep-1))
		default:
			return of(up, d.expr(t, below, deep-1), d.expr(t, below, deep-1))
		}
	}
	up := one(d, api.XNeg, api.XMul, api.XAdd, api.XSub, api.XAdd)
	if up == api.XNeg {
		return of(up, d.expr(t, kind, deep-1))
	}
	return of(up, d.expr(t, kind, deep-1), d.expr(t, kind, deep-1))
}

// where is one that chooses rows, or none.
func (d *die) where(t api.Table) api.Expr {
	if d.of(4) == 0 {
		return api.Expr{}
	}
	return d.expr(t, api.TBool, 1+d.of(2))
}

// table is one that is Right most of the time.
func (d *die) table(tabs []api.Tab) api.Table {
	t := api.Table{Name: one(d, "t", "t0", "t1", "t2", "ab", "a", "b", "c", "e", "f", "g", "h")}
	for i := range 1 + d.of(6) {
		t.Cols = append(t.Cols, api.Col{Name: string([]byte{byte('a' + i)}), Type: one(d, api.TInt, api.TInt, api.TText, 1+d.of(5)), NotNull: d.of(4) == 0})
	}
	if d.of(30) == 0 {
		t.Cols = append(t.Cols, api.Col{Name: "g", Type: api.TInt})
	}
	t.Key = d.of(len(t.Cols))
	t.Cols[t.Key].NotNull = d.of(20) > 0
	for i := range t.Cols {
		if d.of(4) == 0 {
			t.Unique = append(t.Unique, i)
		}
	}
	if d.of(30) == 0 {
		t.Unique = append(t.Unique, t.Key, t.Key)
	}
	if d.of(3) == 0 {
		t.Check = d.expr(t, api.TBool, 1+d.of(3))
	}
	for range d.of(3) {
		t.Links = append(t.Links, d.link(t, tabs))
	}
	return t
}

// link leads from a column to a table whose key is of its type, if there is one.
func (d *die) link(t api.Table, tabs []api.Tab) api.Link {
	k := api.Link{Col: d.of(len(t.Cols)), Table: t.Name}
	for range 20 {
		if d.of(30) == 0 {
			k.Table = d.named(nil)
			break
		}
		if len(tabs) > 0 && d.of(5) > 0 {
			to := one(d, tabs...)
			if to.T.Cols[to.T.Key].Type == t.Cols[k.Col].Type || d.of(30) == 0 {
				k.Table = to.T.Name
				break
			}
			k.Col = d.of(len(t.Cols))
		} else if t.Cols[k.Col].Type == t.Cols[t.Key].Type {
			break
		}
	}
	return k
}

// stmt is a statement that many a time may be done.
func (d *die) stmt(tabs []api.Tab) api.Stmt {
	name := d.named(tabs)
	found, _ := lawFind(tabs, name)
	t := found.T
	switch n := d.of(40); {
	case n < 4 || len(tabs) == 0:
		return api.Stmt{Kind: api.SCreate, T: d.table(tabs)}
	case n < 5:
		return api.Stmt{Kind: api.SDrop, Name: name}
	case n < 8:
		if len(t.Cols) == 0 {
			return api.Stmt{Kind: api.SLink, Name: name, Col: "a", To: d.named(tabs)}
		}
		k := d.link(t, tabs)
		return api.Stmt{Kind: api.SLink, Name: name, Col: one(d, t.Cols[k.Col].Name, t.Cols[k.Col].Name, "f"), To: k.Table}
	case n < 26:
		return api.Stmt{Kind: api.SInsert, Name: name, Row: d.row(t)}
	case n < 34:
		c := d.column(t, one(d, api.TInt, api.TInt, 1+d.of(5)))
		kind := 1 + d.of(5)
		if i := lawPlace(t, c); i >= 0 {
			kind = t.Cols[i].Type
		}
		return api.Stmt{Kind: api.SUpdate, Name: name, Col: c, E: d.expr(t, kind, d.of(3)), Where: d.where(t)}
	}
	return api.Stmt{Kind: one(d, api.SDelete, api.SSelect, api.SCount), Name: name, Where: d.where(t)}
}

// row is one that suits a table, most of the time.
func (d *die) row(t api.Table) []api.Value {
	var row []api.Value
	for _, c := range t.Cols {
		v := d.value(c.Type)
		for range 3 {
			if v.Kind == api.TNull && c.NotNull {
				v = d.value(c.Type)
			}
		}
		if d.of(60) == 0 {
			v = d.value(1 + d.of(5))
		}
		row = append(row, v)
	}
	if len(row) == 0 || d.of(60) == 0 {
		row = append(row, num(1))
	}
	return row
}

// read is a statement as it is read, if it can be written.
func (d *die) read(tabs []api.Tab) api.Stmt {
	for {
		s, _, e := sql.Parse(sql.Text(d.stmt(tabs)))
		if e == api.OK {
			return s
		}
	}
}

// same says whether tables are the same, and answers.
func same(a, b []api.Tab) bool {
	if len(a) != len(b) {
		return false
	}
	for i := range a {
		if !reflect.DeepEqual(plain(a[i].T), plain(b[i].T)) || !sameRows(a[i].Rows, b[i].Rows) {
			return false
		}
	}
	return true
}

func sameRows(a, b [][]api.Value) bool {
	return len(a) == 0 && len(b) == 0 || reflect.DeepEqual(a, b)
}

// P502, P504: whatever is done, it is told what the law tells, and leaves what is sound.
func TestByTheLaw(t *testing.T) {
	t.Parallel()
	d := &die{5}
	tally := map[string]int{}
	for range 150 {
		var tabs []api.Tab
		var done []api.Stmt
		for range 120 {
			s := d.read(tabs)
			want, wantA := lawExec(tabs, s)
			next, a := db.Exec(tabs, s)
			if !same(next, want) || a.E != wantA.E || a.N != wantA.N || !sameRows(a.Rows, wantA.Rows) {
				t.Fatalf("P502: %s: over %v: %v, %v, not %v, %v", sql.Text(s), tabs, a, next, wantA, want)
			}
			if why := unsound(next); why != "" {
				t.Fatalf("P504: %s leaves what is not sound: %s: %v", sql.Text(s), why, next)
			}
			back, is := db.Load(db.Store(next))
			if !is || !same(back, next) {
				t.Fatalf("P504: there and back: %v, %v", next, back)
			}
			tally[fmt.Sprint(s.Kind, " ", a.E)]++
			if a.E == api.OK && s.Kind >= api.SUpdate && (a.N > 0 || len(a.Rows) > 0) {
				tally[fmt.Sprint(s.Kind, " some")]++
			}
			if a.E == api.OK {
				done = append(done, s)
			}
			tabs = next
		}
		if all, at, e := db.All(nil, done); !same(all, tabs) || at != 0 || e != api.OK {
			t.Fatalf("P503: All: %v, %d, %v, not %v", all, at, e, tabs)
		}
	}
	for _, word := range []string{
		"1 ok", "1 exists", "1 limit", "1 type", "1 table", "2 ok", "2 table", "2 reference", "3 ok", "3 table", "3 column", "3 type", "3 reference",
		"4 ok", "4 table", "4 type", "4 null", "4 check", "4 overflow", "4 twice", "4 reference",
		"5 ok", "5 some", "5 table", "5 column", "5 type", "5 overflow", "5 null", "5 check", "5 twice", "5 reference",
		"6 ok", "6 some", "6 table", "6 column", "6 type", "6 overflow", "6 reference", "7 ok", "7 some", "7 table", "7 overflow", "8 ok", "8 some", "8 table", "8 overflow",
	} {
		if tally[word] < 4 {
			t.Errorf("too few are thrown: %s: %d", word, tally[word])
		}
	}
}

// P503: All does one behind the other; the first one that is refused undoes them all.
func TestAllByTheLaw(t *testing.T) {
	d := &die{6}
	refused := 0
	for range 2000 {
		var tabs []api.Tab
		for range d.of(12) {
			tabs, _ = lawExec(tabs, d.read(tabs))
		}
		want, wantAt, wantE := tabs, 0, api.OK
		var l []api.Stmt
		for i := range d.of(8) {
			s := d.read(want)
			l = append(l, s)
			next, a := lawExec(want, s)
			if wantE == api.OK && a.E != api.OK {
				wantAt, wantE = i, a.E
			}
			if a.E == api.OK {
				want = next
			}
		}
		if wantE != api.OK {
			want = tabs
			refused++
		}
		if out, at, e := db.All(tabs, l); !same(out, want) || at != wantAt || e != wantE {
			t.Fatalf("P503: All: %v, %d, %v, not %v, %d, %v", out, at, e, want, wantAt, wantE)
		}
	}
	if refused < 300 || refused > 1700 {
		t.Errorf("too few are thrown: %d", refused)
	}
}

func TestAll(t *testing.T) {
	read := func(s string) []api.Stmt {
		l, at, e := sql.ParseAll(s)
		if e != api.OK {
			t.Fatalf("%s: %d, %v", s, at, e)
		}
		return l
	}
	d := made(t, "create table a (k int not null, primary key (k))", "insert into a values (1)")
	before := shown(d)
	for _, x := range []struct {
		text, want string
		at         int
		e          api.Errno
	}{
		{"", "(1)", 0, api.OK},
		{"insert into a values (0);", "(0)(1)", 0, api.OK},
		{"insert into a values (0); update a set k = k + 5; delete from a where k = 5;", "(6)", 0, api.OK},
		{"insert into a values (1);", "(1)", 0, api.Dup},
		{"insert into a values (0); insert into a values (1);", "(1)", 1, api.Dup},
		{"insert into a values (0); insert into a values (2); select * from b; insert into a values (1);", "(1)", 2, api.NoTable},
		{"drop table a; create table a (k int not null, primary key (k)); select * from a; select count(*) from a; insert into a values (1.0);", "(1)", 4, api.Type},
		{"drop table a; create table a (k int not null, primary key (k)); insert into a values (7);", "(7)", 0, api.OK},
	} {
		out, at, e := db.All(d, read(x.text))
		if at != x.at || e != x.e {
			t.Errorf("P503: All of %s: %d, %v, not %d, %v", x.text, at, e, x.at, x.e)
		}
		holds(t, out, "a", x.want)
		if shown(d) != before {
			t.Fatalf("P2: %s", shown(d))
		}
	}
	for _, none := range [][]api.Tab{nil, {}} {
		if out, at, e := db.All(none, nil); len(out) != 0 || at != 0 || e != api.OK {
			t.Errorf("P503: %v, %d, %v", out, at, e)
		}
		if out, at, e := db.All(none, read("drop table a;")); len(out) != 0 || at != 0 || e != api.NoTable {
			t.Errorf("P503: %v, %d, %v", out, at, e)
		}
	}
}
