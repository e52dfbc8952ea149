package dump_test

import (
	"fmt"
	"math"
	"strings"
	"testing"

	"federation/api"
	"federation/dump"
	"federation/sql"
)

func TestDumpOfNothing(t *testing.T) {
	for _, size := range []int{1, 2, 60, math.MaxInt} {
		for _, d := range [][]api.Tab{nil, {}} {
			if l := dump.Dump(d, size); len(l) != 0 {
				t.Errorf("P601: %v", l)
			}
		}
	}
}

func TestDump(t *testing.T) {
	for i, x := range []struct {
		size int
		made []string
		want string
	}{
		// no rows: no chunk of the table's phase
		{1, []string{"create table t (a int not null, primary key (a))"}, "0:\ncreate table t (a int not null, primary key (a));\n"},
		// all of a table's form
		{5, []string{
			"create table t (a text not null, b dec not null, c bool, d bytes, e int, f text, primary key (a), unique (b), unique (e), check ((e < 5) or (b is null)), foreign key (f) references t)",
			"insert into t values ('it''s', -1.50, true, x'00ff', -9223372036854775808, null)",
			"insert into t values ('', 0.0, false, x'', null, 'it''s')",
		}, `0:
create table t (a text not null, b dec not null, c bool, d bytes, e int, f text, primary key (a), unique (b), unique (e), check ((e < 5) or (b is null)));
1:
insert into t values ('', 0.0, false, x'', null, 'it''s');
insert into t values ('it''s', -1.5, true, x'00ff', -9223372036854775808, null);
2:
alter table t add foreign key (f) references t;
`},
		// a table without rows keeps its phase
		{2, []string{
			"create table c (k int not null, primary key (k))", "create table b (k int not null, primary key (k))", "create table a (k int not null, primary key (k))",
			"insert into c values (3)", "insert into a values (2)", "insert into c values (1)", "insert into c values (2)",
		}, `0:
create table a (k int not null, primary key (k));
create table b (k int not null, primary key (k));
create table c (k int not null, primary key (k));
1:
insert into a values (2);
3:
insert into c values (1);
insert into c values (2);
3:
insert into c values (3);
`},
		// phases are by the order, not by the names
		{9, []string{
			"create table z (k int not null, primary key (k))", "create table a (k int not null, primary key (k), foreign key (k) references z)",
			"insert into z values (1)", "insert into a values (1)",
		}, `0:
create table z (k int not null, primary key (k));
create table a (k int not null, primary key (k), foreign key (k) references z);
1:
insert into z values (1);
2:
insert into a values (1);
`},
		// a ring: from the first link on that leads to one that does not stand ahead, all come late, in their order
		{1, []string{
			"create table a (k int not null, l int, primary key (k))",
			"create table b (k int not null, l int, primary key (k), foreign key (l) references a, foreign key (k) references a, foreign key (k) references b, foreign key (l) references a)",
			"alter table a add foreign key (l) references a", "alter table a add foreign key (l) references b",
			"insert into a values (1, null)", "insert into b values (1, 1)", "update a set l = 1", "insert into a values (0, 1)",
		}, `0:
create table a (k int not null, l int, primary key (k));
create table b (k int not null, l int, primary key (k), foreign key (l) references a, foreign key (k) references a);
1:
insert into a values (0, 1);
1:
insert into a values (1, 1);
2:
insert into b values (1, 1);
3:
alter table a add foreign key (l) references a;
alter table a add foreign key (l) references b;
alter table b add foreign key (k) references b;
alter table b add foreign key (l) references a;
`},
		// late links are table by table in the order, not by the names
		{1, []string{
			"create table z (k int not null, primary key (k), foreign key (k) references z)",
			"create table a (k int not null, primary key (k), foreign key (k) references z, foreign key (k) references a)",
		}, `0:
create table z (k int not null, primary key (k));
create table a (k int not null, primary key (k), foreign key (k) references z);
3:
alter table z add foreign key (k) references z;
alter table a add foreign key (k) references a;
`},
		// a table that links to none behind it has all its links early
		{1, []string{
			"create table a (k int not null, primary key (k))", "create table b (k int not null, primary key (k))",
			"create table c (k int not null, primary key (k), foreign key (k) references b, foreign key (k) references a, foreign key (k) references b)",
		}, `0:
create table a (k int not null, primary key (k));
create table b (k int not null, primary key (k));
create table c (k int not null, primary key (k), foreign key (k) references b, foreign key (k) references a, foreign key (k) references b);
`},
	} {
		if got := said(dump.Dump(made(t, x.made...), x.size)); got != x.want {
			t.Errorf("P601: %d: %s, not %s", i, got, x.want)
		}
	}
}

// Rows are by keys, size a chunk, whatever the size is.
func TestSizes(t *testing.T) {
	l := []string{"create table s (a int not null, primary key (a))", "create table t (a int not null, primary key (a))"}
	for i := range api.MaxRows {
		l = append(l, fmt.Sprintf("insert into t values (%d)", (i*37)%api.MaxRows-30))
	}
	for _, rows := range []int{0, 1, 2, 3, 7, 59, api.MaxRows} {
		d := made(t, l[:2+rows]...)
		for _, size := range []int{1, 2, 3, 7, 10, 58, 59, 60, 61, 1000, math.MaxInt} {
			chunks := dump.Dump(d, size)
			if len(chunks) == 0 || chunks[0].Phase != 0 {
				t.Fatalf("P601: %v", chunks)
			}
			text := ""
			for i, c := range chunks[1:] {
				n := strings.Count(c.Text, ";\n")
				if c.Phase != 2 || n > size || n == 0 || n < size && i+2 < len(chunks) {
					t.Errorf("P601: %d rows by %d: phase %d, %d rows", rows, size, c.Phase, n)
				}
				text += c.Text
			}
			want := ""
			for _, row := range d[1].Rows {
				want += "insert into t values (" + sql.Lit(row[0]) + ");\n"
			}
			if text != want {
				t.Errorf("P601: %d rows by %d: %s, not %s", rows, size, text, want)
			}
		}
	}
}

// A size of none is no size: nothing is promised of it but that the call ends, and changes nothing (P1, P8).
func TestSizesThatMayNotBe(t *testing.T) {
	d := made(t, "create table t (a int not null, primary key (a))", "insert into t values (1)", "insert into t values (2)")
	before := fmt.Sprint(d)
	for _, size := range []int{0, -1, -60, math.MinInt} {
		dump.Dump(d, size)
	}
	if fmt.Sprint(d) != before {
		t.Errorf("P2: %v, not %s", d, before)
	}
}

// tree is an expression of 2^deep parts.
func tree(part string, deep int) string {
	if deep == 0 {
		return part
	}
	half := "(" + tree(part, deep-1) + ")"
	return half + " and " + half
}

// widest are as many tables, columns, rows, links as may be, values and names as long as may be, and checks nearly so.
func widest(t *testing.T) []api.Tab {
	t.Helper()
	var l []string
	name := func(i int) string { return fmt.Sprintf("abcdefghijk%d", i) }
	quotes, raw := "'"+strings.Repeat("''", api.MaxString)+"'", "x'"+strings.Repeat("ff", api.MaxString)+"'"
	check := tree("abcdefghijk2 <> '"+strings.Repeat("x", 20)+"'", 6)
	for i := range api.MaxTables {
		l = append(l, fmt.Sprintf("create table %s (abcdefghijk0 int not null, abcdefghijk1 int not null, abcdefghijk2 text not null, abcdefghijk3 bytes not null, abcdefghijk4 bytes not null, abcdefghijk5 dec not null, primary key (abcdefghijk0), unique (abcdefghijk0), check (%s))", name(i), check))
	}
	for i := range api.MaxTables {
		for k := range api.MaxRows {
			l = append(l, fmt.Sprintf("insert into %s values (%d, %d, %s, %s, %s, -0.000001)", name(i), math.MinInt+k, math.MinInt+(k+1)%api.MaxRows, quotes, raw, raw))
		}
	}
	for i := range api.MaxTables {
		for k := range 6 {
			l = append(l, fmt.Sprintf("alter table %s add foreign key (abcdefghijk1) references %s", name(i), name((i+k)%api.MaxTables)))
		}
	}
	return made(t, l...)
}

// The greatest tables that there may be are brought in by chunks of whatever size.
func TestWidestTables(t *testing.T) {
	t.Parallel()
	d := widest(t)
	for _, size := range []int{1, 7, api.MaxRows} {
		chunks := dump.Dump(d, size)
		if want := 2 + api.MaxTables*((api.MaxRows+size-1)/size); len(chunks) != want {
			t.Fatalf("P601: %d chunks, not %d", len(chunks), want)
		}
		if size == 1 {
			// each chunk takes all tables to be read: so many would take long
			continue
		}
		var l []api.Pair
		for at := range chunks {
			l = brings(t, l, chunks, at, api.OK)
		}
		finishes(t, l, chunks, d)
	}
}
