package db_test

import (
	"fmt"
	"math"
	"slices"
	"strings"
	"testing"

	"federation/api"
	"federation/db"
	"federation/key"
	"federation/sql"
)

func pair(k, v string) api.Pair { return api.Pair{K: k, V: v} }

// loads holds that Load tells d of l, and that Store of that is l.
func loads(t *testing.T, l []api.Pair, d []api.Tab) {
	t.Helper()
	got, is := db.Load(l)
	if !is || !same(got, d) {
		t.Errorf("P503: Load of %q: %v, %v, not %v", l, got, is, d)
	}
	if !slices.Equal(db.Store(d), l) {
		t.Errorf("P503: Store of %v: %q, not %q", d, db.Store(d), l)
	}
}

// none holds that Load refuses l, and that nothing stands beside the false (P4).
func none(t *testing.T, l ...api.Pair) {
	t.Helper()
	if got, is := db.Load(l); is || len(got) != 0 {
		t.Errorf("P503: Load of %q: %v, %v", l, got, is)
	}
}

func TestStoreIsWritten(t *testing.T) {
	loads(t, nil, nil)
	loads(t, []api.Pair{}, []api.Tab{})
	d := made(t,
		"create table ab (k text not null, x bool, primary key (k))",
		"create table a (n dec, k int not null, primary key (k), unique (n), check (n < 1.5 or n is null), foreign key (k) references a)",
		"create table a_ (k bytes not null, primary key (k))",
		"create table a0 (k bool not null, primary key (k))",
		"create table ac (k dec not null, primary key (k))",
		"insert into ab values ('b', null)", "insert into ab values ('', true)", "insert into ab values ('ab', false)", "insert into ab values ('a', false)",
		"insert into a values (null, 1)", "insert into a values (0.5, -1)", "insert into a values (1.25, 0)",
		"insert into a_ values (x'00')", "insert into a_ values (x'')", "insert into a_ values (x'0001')", "insert into a_ values (x'ff')",
		"insert into a0 values (true)", "insert into a0 values (false)",
		"insert into ac values (-1.5)", "insert into ac values (-2.0)", "insert into ac values (0.000001)",
	)
	loads(t, []api.Pair{
		pair("ca", "create table a (n dec, k int not null, primary key (k), unique (n), check ((n < 1.5) or (n is null)), foreign key (k) references a)"),
		pair("ca0", "create table a0 (k bool not null, primary key (k))"),
		pair("ca_", "create table a_ (k bytes not null, primary key (k))"),
		pair("cab", "create table ab (k text not null, x bool, primary key (k))"),
		pair("cac", "create table ac (k dec not null, primary key (k))"),
		pair("ra\x00\x02\x7f\xff\xff\xff\xff\xff\xff\xff", "\x02"+key.Key(dec(5, 1))+key.Key(num(-1))),
		pair("ra\x00\x02\x80\x00\x00\x00\x00\x00\x00\x00", "\x02"+key.Key(dec(125, 2))+key.Key(num(0))),
		pair("ra\x00\x02\x80\x00\x00\x00\x00\x00\x00\x01", "\x02\x00"+key.Key(num(1))),
		pair("ra0\x00\x01\x00", "\x01\x01\x00"),
		pair("ra0\x00\x01\x01", "\x01\x01\x01"),
		pair("ra_\x00\x05\x00\x01", "\x01\x05\x00\x01"),
		pair("ra_\x00\x05\x00\xff\x00\x01", "\x01\x05\x00\xff\x00\x01"),
		pair("ra_\x00\x05\x00\xff\x01\x00\x01", "\x01\x05\x00\xff\x01\x00\x01"),
		pair("ra_\x00\x05\xff\x00\x01", "\x01\x05\xff\x00\x01"),
		pair("rab\x00\x04\x00\x01", "\x02\x04\x00\x01\x01\x01"),
		pair("rab\x00\x04a\x00\x01", "\x02\x04a\x00\x01\x01\x00"),
		pair("rab\x00\x04ab\x00\x01", "\x02\x04ab\x00\x01\x01\x00"),
		pair("rab\x00\x04b\x00\x01", "\x02\x04b\x00\x01\x00"),
		pair("rac\x00"+key.Key(dec(-2, 0)), "\x01"+key.Key(dec(-2, 0))),
		pair("rac\x00"+key.Key(dec(-15, 1)), "\x01"+key.Key(dec(-15, 1))),
		pair("rac\x00"+key.Key(dec(1, 6)), "\x01"+key.Key(dec(1, 6))),
	}, d)
}

// small are two tables and their pairs: those of u link to t.
func small(t *testing.T) []api.Pair {
	t.Helper()
	d := made(t,
		"create table t (a int not null, b text, primary key (a), unique (b), check (a < 10))",
		"create table u (k text not null, t int, primary key (k), foreign key (t) references t)",
		"insert into t values (1, 'x')", "insert into t values (2, null)", "insert into u values ('a', 1)", "insert into u values ('b', null)",
	)
	l := db.Store(d)
	loads(t, l, d)
	return l
}

func TestLoadOfWhatIsMissing(t *testing.T) {
	l := small(t)
	for i := range l {
		rest := slices.Delete(slices.Clone(l), i, i+1)
		// Without the row that nothing leads to, without a row that leads to others, it is another Store.
		if i == 3 || i == 4 || i == 5 {
			if d, is := db.Load(rest); !is || !slices.Equal(db.Store(d), rest) {
				t.Errorf("P503: Load without %d: %v", i, d)
			}
			continue
		}
		none(t, rest...)
	}
	none(t, l[2])
	none(t, l[1])
	loads(t, l[:1], []api.Tab{{T: form(t, l[0].V)}})
}

func TestLoadOfWhatIsMore(t *testing.T) {
	l := small(t)
	for i := range len(l) + 1 {
		for _, more := range []api.Pair{{}, pair("x", ""), pair("c", l[0].V), pair("r", l[2].V), pair("r\x00", l[2].V), pair("p0001", "1"), pair("C", l[0].V), pair("ct\x00", l[0].V), pair("rt", l[2].V), pair("rt\x00", l[2].V), pair("\xff", ""), pair("rv\x00"+l[2].K[3:], l[2].V), pair("xt\x00"+l[2].K[3:], l[2].V), pair("t\x00"+l[2].K[3:], l[2].V), pair("crt", l[0].V)} {
			none(t, slices.Insert(slices.Clone(l), i, more)...)
		}
		for _, twice := range l {
			none(t, slices.Insert(slices.Clone(l), i, twice)...)
		}
	}
}

func TestLoadOfWhatIsOutOfOrder(t *testing.T) {
	l := small(t)
	for i := range l {
		for k := range i {
			other := slices.Clone(l)
			other[i], other[k] = other[k], other[i]
			none(t, other...)
		}
	}
	slices.Reverse(l)
	none(t, l...)
}

func TestLoadOfTables(t *testing.T) {
	for _, x := range []struct{ k, v string }{
		{"ct", ""}, {"ct", "create"}, {"ct", "drop table t"}, {"ct", "select * from t"}, {"ct", "insert into t values (1)"},
		{"ct", "create table t (a int, primary key (a))"}, {"ct", "create table t (a int not null, primary key (a), check (a))"},
		{"ct", "create table t (a int not null, primary key (a)) "}, {"ct", " create table t (a int not null, primary key (a))"}, {"ct", "create table t(a int not null, primary key (a))"}, {"ct", "create  table t (a int not null, primary key (a))"}, {"ct", "create table t (a int not null, primary key (a));"},
		{"ct", "create table t (a int not null, primary key (a), check (a < 1 and a < 2))"}, {"ct", "create table t (a int not null, primary key (a), check ((true)))"},
		{"ct", "create table u (a int not null, primary key (a))"}, {"cu", "create table t (a int not null, primary key (a))"}, {"t", "create table t (a int not null, primary key (a))"}, {"c t", "create table t (a int not null, primary key (a))"}, {"ctt", "create table t (a int not null, primary key (a))"}, {"rt", "create table t (a int not null, primary key (a))"}, {"Ct", "create table t (a int not null, primary key (a))"},
		{"ct", "create table t (a int not null, primary key (a), foreign key (a) references u)"}, {"ct", "create table t (a int not null, b text, primary key (a), foreign key (b) references t)"},
		{"cselect", "create table select (a int not null, primary key (a))"},
	} {
		none(t, pair(x.k, x.v))
	}
	for _, s := range []string{"create table t (a int not null, primary key (a))", "create table t (a int not null, primary key (a), check ((a < 1) and (a < 2)))", "create table t (a int not null, b int, primary key (a), unique (b), foreign key (b) references t)"} {
		loads(t, []api.Pair{pair("ct", s)}, []api.Tab{{T: form(t, s)}})
	}
	text := "create table t (a int not null, primary key (a), foreign key (a) references u)"
	loads(t, []api.Pair{pair("ct", text), pair("cu", strings.Replace(text, " t ", " u ", 1))}, []api.Tab{{T: form(t, text)}, {T: form(t, strings.Replace(text, " t ", " u ", 1))}})
	none(t, pair("ct", text), pair("cu", "create table u (a text not null, primary key (a))"))
}

// stored are the pairs of one table and rows of it, as they are, sound or not.
func stored(s string, keyAt int, rows ...[]api.Value) []api.Pair {
	name := strings.Fields(s)[2]
	l := []api.Pair{pair("c"+name, s)}
	for _, row := range rows {
		k := api.Value{}
		if keyAt < len(row) {
			k = row[keyAt]
		}
		l = append(l, pair("r"+name+"\x00"+key.Key(k), key.Row(row)))
	}
	return l
}

func TestLoadOfRows(t *testing.T) {
	const s = "create table t (a int not null, b text, c dec not null, primary key (a), unique (b), check ((a < 10) and ((c * 10.0) < 50.0)))"
	fine := []api.Value{num(1), text("x"), dec(1, 0)}
	loads(t, stored(s, 0, fine), []api.Tab{{T: form(t, s), Rows: [][]api.Value{fine}}})
	loads(t, stored(s, 0, fine, []api.Value{num(2), {}, dec(1, 0)}, []api.Value{num(3), {}, dec(1, 0)}), []api.Tab{{T: form(t, s), Rows: [][]api.Value{fine, {num(2), {}, dec(1, 0)}, {num(3), {}, dec(1, 0)}}}})
	for _, row := range [][]api.Value{
		{}, {num(1)}, {num(2), text("y")}, {num(2), text("y"), dec(1, 0), {}}, {num(2), text("y"), dec(1, 0), num(1), num(1), num(1), num(1)},
		{text("2"), text("y"), dec(1, 0)}, {num(2), num(1), dec(1, 0)}, {num(2), text("y"), num(1)}, {dec(2, 0), text("y"), dec(1, 0)}, {num(2), raw("y"), dec(1, 0)}, {num(2), flag(1), dec(1, 0)},
		{{}, text("y"), dec(1, 0)}, {num(2), text("y"), {}}, {num(10), text("y"), dec(1, 0)}, {num(2), text("y"), dec(5, 0)}, {num(2), text("y"), dec(999_999_999_999_999, 0)}, {num(2), text("x"), dec(1, 0)},
	} {
		none(t, stored(s, 0, fine, row)...)
		if len(row) > 0 && row[0] != num(2) {
			none(t, stored(s, 0, row)...)
		}
	}
	l := stored(s, 0, fine)
	for _, k := range []string{"rt\x00" + key.Key(num(2)), "rt\x00" + key.Key(num(1)) + "\x00", "rt\x00" + key.Key(num(1))[:8], "rt" + key.Key(num(1)), "rt\x00\x00" + key.Key(num(1)), "rt\x01" + key.Key(num(1)), "rt\x00" + key.Key(text("x")), "rt \x00" + key.Key(num(1)), "Rt\x00" + key.Key(num(1))} {
		none(t, l[0], pair(k, l[1].V))
	}
	for _, v := range []string{"", l[1].V + "\x00", l[1].V[:len(l[1].V)-1], "\x04" + l[1].V[1:], "\x02" + l[1].V[1:], "\xff"} {
		none(t, l[0], pair(l[1].K, v))
	}
}

func TestLoadOfLinks(t *testing.T) {
	const s = "create table t (a int not null, b int, primary key (a), foreign key (b) references t)"
	row := func(a int, b api.Value) []api.Value { return []api.Value{num(a), b} }
	for _, x := range []struct {
		rows [][]api.Value
		is   bool
	}{
		{[][]api.Value{row(1, num(1))}, true}, {[][]api.Value{row(1, api.Value{})}, true}, {[][]api.Value{row(1, num(2))}, false}, {[][]api.Value{row(1, num(2)), row(2, num(1))}, true}, {[][]api.Value{row(1, num(2)), row(2, num(0))}, false}, {[][]api.Value{row(1, num(3)), row(2, num(2)), row(3, num(1))}, true},
	} {
		l := stored(s, 0, x.rows...)
		if x.is {
			loads(t, l, []api.Tab{{T: form(t, s), Rows: x.rows}})
		} else {
			none(t, l...)
		}
	}
}

func TestLoadOfMany(t *testing.T) {
	const s = "create table %s (a int not null, primary key (a))"
	pairs := func(tables, rows int) []api.Pair {
		var l []api.Pair
		for i := range tables {
			name := fmt.Sprintf("t%02d", i)
			l = append(l, pair("c"+name, fmt.Sprintf(s, name)))
		}
		for i := range tables {
			for k := range rows {
				l = append(l, pair(fmt.Sprintf("rt%02d\x00", i)+key.Key(num(k)), key.Row([]api.Value{num(k)})))
			}
		}
		return l
	}
	for _, x := range []struct {
		tables, rows int
		is           bool
	}{{8, 0, true}, {9, 0, false}, {1, 60, true}, {1, 61, false}, {8, 60, true}, {8, 61, false}, {9, 60, false}, {1, 200, false}, {50, 0, false}, {3, 62, false}} {
		d, is := db.Load(pairs(x.tables, x.rows))
		if is != x.is || is && (len(d) != x.tables || len(d[0].Rows) != x.rows) || !is && len(d) != 0 {
			t.Errorf("P503: Load of %d tables of %d rows: %v", x.tables, x.rows, is)
		}
	}
	// Ever so many are refused soon.
	none(t, pairs(1, 200_000)...)
	none(t, make([]api.Pair, 1_000_000)...)
}

// lawLoad is P503's Load, said once more: what pairs say is read, and is what is asked for, if it is sound and stored as they are.
func lawLoad(l []api.Pair) ([]api.Tab, bool) {
	var d []api.Tab
	for i, p := range l {
		if i > 0 && l[i-1].K >= p.K || p.K == "" {
			return nil, false
		}
		if p.K[0] == 'c' {
			s, _, e := sql.Parse(p.V)
			if e != api.OK || s.Kind != api.SCreate || s.T.Name != p.K[1:] || sql.Text(s) != p.V {
				return nil, false
			}
			d = append(d, api.Tab{T: s.T})
			continue
		}
		row, is := key.ReadRow(p.V)
		found := false
		for k := range d {
			if t := &d[k]; is && t.T.Key < len(row) && p.K == "r"+t.T.Name+"\x00"+key.Key(row[t.T.Key]) {
				t.Rows, found = append(t.Rows, row), true
			}
		}
		if !found {
			return nil, false
		}
	}
	return d, unsound(d) == ""
}

// P503: whatever is changed in the pairs of sound tables, Load tells what the law tells.
func TestLoadByTheLaw(t *testing.T) {
	t.Parallel()
	d := &die{7}
	tally := [2]int{}
	for range 400 {
		var tabs []api.Tab
		for range 10 + d.of(60) {
			tabs, _ = lawExec(tabs, d.read(tabs))
		}
		l := db.Store(tabs)
		for range 30 {
			other := slices.Clone(l)
			for range 1 + d.of(2) {
				other = d.bendPairs(other, tabs)
			}
			want, wantIs := lawLoad(other)
			got, is := db.Load(other)
			if is != wantIs || is && !same(got, want) || !is && len(got) != 0 {
				t.Fatalf("P503: Load of %q: %v, %v, not %v, %v", other, got, is, want, wantIs)
			}
			if is && !slices.Equal(db.Store(got), other) {
				t.Fatalf("P503: Store of %v: %q, not %q", got, db.Store(got), other)
			}
			if is {
				tally[1]++
			} else {
				tally[0]++
			}
		}
	}
	if tally[0] < 2000 || tally[1] < 1000 {
		t.Errorf("too few are thrown: %v", tally)
	}
}

// bendPairs changes pairs somewhere.
func (d *die) bendPairs(l []api.Pair, tabs []api.Tab) []api.Pair {
	if len(l) == 0 {
		return l
	}
	i, k := d.of(len(l)), d.of(len(l))
	switch d.of(8) {
	case 0:
		return slices.Delete(l, i, i+1)
	case 1:
		l[i], l[k] = l[k], l[i]
	case 2:
		return slices.Insert(l, i, l[k])
	case 3:
		l[i].V = d.bendText(l[i].V)
	case 4:
		l[i].K = d.bendText(l[i].K)
	case 5:
		l[i].V = l[k].V
	default:
		// Another row in its place, or one more.
		t := one(d, tabs...).T
		row := d.row(t)
		at := api.Value{}
		if t.Key < len(row) {
			at = row[t.Key]
		}
		p := pair("r"+t.Name+"\x00"+key.Key(at), key.Row(row))
		i, is := slices.BinarySearchFunc(l, p.K, func(p api.Pair, k string) int { return strings.Compare(p.K, k) })
		if is {
			l[i] = p
			return l
		}
		return slices.Insert(l, i, p)
	}
	return l
}

// bendText changes a byte of a text, or takes one away.
func (d *die) bendText(s string) string {
	if s == "" {
		return "a"
	}
	b := []byte(s)
	i := d.of(len(b))
	if d.of(4) == 0 {
		return string(slices.Delete(b, i, i+1))
	}
	b[i] ^= byte(1 << d.of(8))
	return string(b)
}

// Store of what is sound rises by K, none twice, whatever the keys.
func TestStoreRises(t *testing.T) {
	var d []api.Tab
	for i, name := range []string{"a", "a0", "a0a", "a_", "aa", "b"} {
		kind := []string{"int", "dec", "text", "bytes", "bool", "int"}[i]
		d = does(t, d, "create table "+name+" (k "+kind+" not null, primary key (k))", "ok 0")
	}
	keys := map[string][]api.Value{
		"a": {num(math.MinInt), num(-256), num(-1), num(0), num(1), num(255), num(256), num(math.MaxInt)}, "b": {num(-5), num(5)},
		"a0":  {dec(-999_999_999_999_999, 0), dec(-15, 1), dec(-1, 0), dec(-1, 6), dec(0, 0), dec(1, 6), dec(25, 2), dec(1, 0), dec(10, 0), dec(999_999_999_999_999, 0)},
		"a0a": {text(""), text(" "), text("a"), text("a a"), text("aa"), text("b"), text("~")}, "a_": {raw(""), raw("\x00"), raw("\x00\x00"), raw("\x00\x01"), raw("\x00\xff"), raw("\x01"), raw("\xff"), raw("\xff\x00")}, "aa": {flag(0), flag(1)},
	}
	for _, name := range []string{"a", "a0", "a0a", "a_", "aa", "b"} {
		for _, v := range slices.Backward(keys[name]) {
			d = does(t, d, "insert into "+name+" values ("+sql.Lit(v)+")", "ok 1")
		}
		want := ""
		for _, v := range keys[name] {
			want += "(" + sql.Lit(v) + ")"
		}
		holds(t, d, name, want)
	}
	l := db.Store(d)
	for i := range l[1:] {
		if l[i].K >= l[i+1].K {
			t.Errorf("P503: %q stands ahead of %q", l[i].K, l[i+1].K)
		}
	}
	loads(t, l, d)
}
