package dump_test

import (
	"fmt"
	"reflect"
	"slices"
	"testing"

	"federation/api"
	"federation/db"
	"federation/dump"
	"federation/sql"
)

// statement is a text over few tables, so that many are linked, and many are refused.
func (d *die) statement() string {
	name := func() string { return one(d, "t", "t0", "t1", "t_", "a", "ab", "b", "z") }
	link := func() string {
		return fmt.Sprintf("foreign key (%s) references %s", one(d, "k", "l", "l", "m", "s"), name())
	}
	switch d.of(12) {
	case 0, 1:
		s := "create table " + name() + " (k int not null, l int, m int" + one(d, "", " not null") + ", s text, x bytes, d dec, primary key (k)"
		if d.of(8) == 0 {
			s = "create table " + name() + " (l int, s text not null, k int, m int, x bytes, d dec, primary key (s)"
		}
		s += one(d, "", "", ", unique (x)") + one(d, "", "", ", check (k < 20)")
		for range d.of(3) {
			s += ", " + link()
		}
		return s + ")"
	case 2, 3, 4:
		return "alter table " + name() + " add " + link()
	case 5:
		return "update " + name() + " set " + one(d, "l = ", "l = ", "m = ", "k = k + ") + one(d, "0", "1", "2", "3") + one(d, "", " where k < 3", " where l is null")
	case 6:
		return one(d, "drop table ", "delete from ", "delete from ") + name()
	}
	num := func() string { return one(d, "null", "0", "1", "2", "3", fmt.Sprint(d.of(40))) }
	return fmt.Sprintf("insert into %s values (%d, %s, %s, %s, %s, %s)", name(), d.of(40), num(), num(), one(d, "null", "''", "'it''s'", "'; drop table t;'", "'a'"), one(d, "null", "x''", "x'00'", "x'0aff'"), one(d, "null", "0.0", "-1.25", "7", "1000000.000001"))
}

// tables are thrown.
func (d *die) tables(t *testing.T, n int) []api.Tab {
	t.Helper()
	var tabs []api.Tab
	for range n {
		tabs, _ = db.Exec(tabs, read(t, d.statement()))
	}
	return tabs
}

// Order and Dump are as the chapter's words have them, and are read as they were written.
func TestDumpLaw(t *testing.T) {
	t.Parallel()
	d := &die{1}
	seen := map[string]int{}
	for range 800 {
		tabs := d.tables(t, d.of(160))
		if got, want := dump.Order(tabs), lawOrder(tabs); !slices.Equal(got, want) {
			t.Fatalf("P601: Order of %v: %v, not %v", tabs, got, want)
		}
		size := one(d, 1, 2, 3, 5, 60, 1+d.of(70))
		got, want := dump.Dump(tabs, size), lawDump(tabs, size)
		if !slices.Equal(got, want) {
			t.Fatalf("P601: Dump: %s, not %s", said(got), said(want))
		}
		readAgain(t, got, tabs)
		seen[fmt.Sprintf("%d tables", len(tabs))]++
		if len(got) > 0 && got[len(got)-1].Phase == len(tabs)+1 {
			seen["late links"]++
		}
		if !slices.Equal(got, dump.Dump(tabs, size+1)) {
			seen["sizes"]++
		}
		if !slices.IsSorted(dump.Order(tabs)) {
			seen["orders"]++
		}
	}
	for _, what := range []string{"0 tables", "1 tables", "2 tables", "4 tables", "6 tables", "8 tables", "late links", "sizes", "orders"} {
		if seen[what] < 10 {
			t.Errorf("too few are thrown: %v", seen)
		}
	}
}

// readAgain says that chunks are texts of statements that make the tables (T4).
func readAgain(t *testing.T, chunks []api.Chunk, tabs []api.Tab) {
	t.Helper()
	var got []api.Tab
	for i, c := range chunks {
		if i > 0 && c.Phase < chunks[i-1].Phase {
			t.Fatalf("P601: phase %d behind %d", c.Phase, chunks[i-1].Phase)
		}
		l, at, e := sql.ParseAll(c.Text)
		if e != api.OK {
			t.Fatalf("P603: %s: %d, %v", c.Text, at, e)
		}
		if got, at, e = db.All(got, l); e != api.OK {
			t.Fatalf("P603: %s: %v", sql.Text(l[at]), e)
		}
	}
	if fmt.Sprint(got) != fmt.Sprint(tabs) {
		t.Fatalf("P603: %v, not %v", got, tabs)
	}
}

// All chunks, in any order that Wait lets, some of them twice, brought into nothing, and finished, are the tables.
func TestPlays(t *testing.T) {
	t.Parallel()
	d := &die{2}
	waits, links := 0, 0
	for range 150 {
		tabs := d.tables(t, 40+d.of(120))
		chunks := dump.Dump(tabs, one(d, 1, 2, 4, 60))
		var l []api.Pair
		for left := dump.Left(l, chunks); len(left) > 0; left = dump.Left(l, chunks) {
			if end, e := dump.Finish(l, chunks); e != api.Wait || len(end) > 0 {
				t.Fatalf("P602: Finish with %v left: %v", left, e)
			}
			at := one(d, left...)
			if d.of(4) == 0 {
				at = d.of(len(chunks))
			}
			want := api.OK
			if slices.Contains(left, at) && chunks[left[0]].Phase < chunks[at].Phase {
				want = api.Wait
				waits++
			}
			next := brings(t, l, chunks, at, want)
			if want == api.OK && slices.Contains(left, at) != (len(next) > len(l)) {
				t.Fatalf("P602: %q becomes %q", l, next)
			}
			l = next
		}
		finishes(t, l, chunks, tabs)
		if len(chunks) > 0 && chunks[len(chunks)-1].Phase > len(tabs) {
			links++
		}
	}
	if waits < 300 || links < 60 {
		t.Errorf("too few are thrown: %d, %d", waits, links)
	}
}

// Every order that Wait lets is gone through to its end.
func TestAllOrders(t *testing.T) {
	tabs := made(t,
		"create table b (k int not null, l int, primary key (k))",
		"create table a (k int not null, l int, primary key (k), foreign key (l) references b, foreign key (l) references a)",
		"alter table b add foreign key (l) references a",
		"insert into b values (1, null)", "insert into b values (2, null)", "insert into a values (2, null)", "insert into a values (1, 2)", "insert into b values (3, 2)",
		"update b set l = 1 where k = 1", "update a set l = 1 where k = 2", "insert into b values (4, null)",
	)
	chunks := dump.Dump(tabs, 1)
	ends := 0
	var on func(l []api.Pair)
	on = func(l []api.Pair) {
		left := dump.Left(l, chunks)
		if len(left) == 0 {
			finishes(t, l, chunks, tabs)
			ends++
		}
		for _, at := range left {
			want := api.OK
			if chunks[left[0]].Phase < chunks[at].Phase {
				want = api.Wait
			}
			if next := brings(t, l, chunks, at, want); want == api.OK {
				on(next)
			}
		}
	}
	on(nil)
	// two rows of a, four of b
	if ends != 2*24 {
		t.Errorf("P603: %d orders", ends)
	}
}

// Apply, Left and Finish of any chunks are as the chapter's words have them.
func TestApplyLaw(t *testing.T) {
	t.Parallel()
	d := &die{3}
	seen := map[api.Errno]int{}
	for range 120 {
		var chunks []api.Chunk
		for range 1 + d.of(8) {
			c := api.Chunk{Phase: one(d, 0, 0, 0, 0, 1, -1)}
			for range d.of(3) {
				c.Text += d.statement() + one(d, ";", ";", "; ", ";\n", ";\n", one(d, ";", ""))
			}
			chunks = append(chunks, c)
		}
		l := db.Store(d.tables(t, d.of(160)))
		for range 60 {
			given := d.bent(l)
			at := d.of(len(chunks)+2) - 1
			want, e := lawApply(given, chunks, at)
			next := brings(t, given, chunks, at, e)
			seen[e]++
			if e == api.OK {
				pairsAre(t, next, want...)
			}
			if _, others := lawMarks(next); sound(others) {
				l = next
			}
			d.leftLaw(t, given, chunks)
			if d.of(10) == 0 {
				i := d.of(len(chunks))
				chunks[i] = api.Chunk{Phase: d.of(2), Text: d.statement() + ";"}
			}
		}
	}
	for _, e := range []api.Errno{api.OK, api.BadText, api.NoTable, api.Exists, api.Type, api.Ref, api.Wait, api.NotThere} {
		if seen[e] < 15 {
			t.Errorf("too few are thrown: %v", seen)
		}
	}
}

// sound says whether pairs are those of tables.
func sound(l []api.Pair) bool {
	_, is := db.Load(l)
	return is
}

// leftLaw says what Left and Finish tell.
func (d *die) leftLaw(t *testing.T, l []api.Pair, chunks []api.Chunk) {
	t.Helper()
	in, others := lawMarks(l)
	var left []int
	for i := range chunks {
		if !in[mark(i).K] {
			left = append(left, i)
		}
	}
	if got := dump.Left(l, chunks); !slices.Equal(got, left) {
		t.Fatalf("P602: Left of %q: %v, not %v", l, got, left)
	}
	end, e := dump.Finish(l, chunks)
	if len(left) > 0 {
		if e != api.Wait || len(end) > 0 {
			t.Fatalf("P602: Finish of %q: %q, %v", l, end, e)
		}
		return
	}
	if e != api.OK || !slices.Equal(end, others) {
		t.Fatalf("P602: Finish of %q: %q, %v, not %q", l, end, e, others)
	}
}

// bent are pairs of which now and then one is another, is gone, or is new: by K, none twice.
func (d *die) bent(l []api.Pair) []api.Pair {
	l = slices.Clone(l)
	if d.of(4) > 0 {
		return l
	}
	for range 1 + d.of(2) {
		switch d.of(5) {
		case 0, 1:
			p := one(d, mark(d.of(9)), mark(d.of(9)), mark(d.of(10000)), one(d, likeMarks()...), api.Pair{K: one(d, "ct", "rt\x00", "x"), V: one(d, "", "1", ofT)})
			if i, is := find(l, p.K); is {
				l[i] = p
			} else {
				l = slices.Insert(l, i, p)
			}
		case 2, 3:
			if len(l) > 0 {
				i := d.of(len(l))
				l = slices.Delete(l, i, i+1)
			}
		case 4:
			if len(l) > 0 {
				l[d.of(len(l))].V = one(d, "1", "2", "", ofT)
			}
		}
	}
	return l
}

func find(l []api.Pair, k string) (int, bool) {
	for i, p := range l {
		if p.K >= k {
			return i, p.K == k
		}
	}
	return len(l), false
}

// The same calls answer the same (P3).
func TestSameAgain(t *testing.T) {
	d := &die{4}
	for range 30 {
		tabs := d.tables(t, 100)
		first, second := dump.Dump(tabs, 3), dump.Dump(tabs, 3)
		if !reflect.DeepEqual(first, second) || !slices.Equal(dump.Order(tabs), dump.Order(tabs)) {
			t.Fatalf("P3: %v, %v", first, second)
		}
		if len(first) == 0 {
			continue
		}
		a, e := dump.Apply(nil, first, 0)
		b, again := dump.Apply(nil, first, 0)
		if e != again || !slices.Equal(a, b) {
			t.Fatalf("P3: %q, %q", a, b)
		}
	}
}
