package dump_test

import (
	"fmt"
	"strings"
	"testing"

	"federation/api"
	"federation/db"
	"federation/dump"
	"federation/sql"
)

// die throws numbers that are the same in each run.
type die struct{ n uint64 }

func (d *die) of(k int) int {
	d.n = d.n*6364136223846793005 + 1442695040888963407
	return int(d.n>>33) % k
}

// one picks.
func one[T any](d *die, l ...T) T { return l[d.of(len(l))] }

// read is a statement of a text.
func read(t *testing.T, s string) api.Stmt {
	t.Helper()
	x, at, e := sql.Parse(s)
	if e != api.OK {
		t.Fatalf("%s: %d, %v", s, at, e)
	}
	return x
}

// made are the tables that statements make, none of which is refused.
func made(t *testing.T, l ...string) []api.Tab {
	t.Helper()
	var stmts []api.Stmt
	for _, s := range l {
		stmts = append(stmts, read(t, s))
	}
	d, at, e := db.All(nil, stmts)
	if e != api.OK {
		t.Fatalf("%s: %v", l[at], e)
	}
	return d
}

// graph are tables that link to one another: "a:bc b c:a" is a that links to b and c, b, and c that links to a.
func graph(t *testing.T, s string) []api.Tab {
	t.Helper()
	var creates, links []string
	for _, x := range strings.Fields(s) {
		name, to, _ := strings.Cut(x, ":")
		creates = append(creates, "create table "+name+" (k int not null, l int, primary key (k))")
		for _, c := range to {
			links = append(links, fmt.Sprintf("alter table %s add foreign key (l) references %c", name, c))
		}
	}
	return made(t, append(creates, links...)...)
}

// said is chunks as one text.
func said(l []api.Chunk) string {
	var b strings.Builder
	for _, c := range l {
		fmt.Fprintf(&b, "%d:\n%s", c.Phase, c.Text)
	}
	return b.String()
}

// mark is the pair that says that the chunk at a place is in.
func mark(at int) api.Pair { return api.Pair{K: fmt.Sprintf("p%04d", at), V: "1"} }

func marks(places ...int) []api.Pair {
	var l []api.Pair
	for _, at := range places {
		l = append(l, mark(at))
	}
	return l
}

// brings is what l becomes by a chunk, or that it is refused with e: with nothing beside it, and l as it was.
func brings(t *testing.T, l []api.Pair, chunks []api.Chunk, at int, e api.Errno) []api.Pair {
	t.Helper()
	before := fmt.Sprintf("%q", l)
	next, got := dump.Apply(l, chunks, at)
	if got != e {
		t.Fatalf("P602: Apply of chunk %d of %v to %s: %v, not %v", at, chunks, before, got, e)
	}
	if got != api.OK && len(next) > 0 {
		t.Fatalf("P4: Apply tells %q beside %v", next, got)
	}
	if after := fmt.Sprintf("%q", l); after != before {
		t.Fatalf("P2: Apply leaves %s of %s", after, before)
	}
	if got != api.OK {
		return l
	}
	return next
}

// finishes says that nothing is left of chunks, and that l are the pairs of tables.
func finishes(t *testing.T, l []api.Pair, chunks []api.Chunk, tabs []api.Tab) {
	t.Helper()
	if left := dump.Left(l, chunks); len(left) > 0 {
		t.Fatalf("P602: %v is left", left)
	}
	end, e := dump.Finish(l, chunks)
	got, is := db.Load(end)
	if e != api.OK || !is || fmt.Sprint(got) != fmt.Sprint(tabs) {
		t.Fatalf("P603: %v, %v: %v, not %v", e, is, got, tabs)
	}
	if want := db.Store(tabs); fmt.Sprintf("%q", end) != fmt.Sprintf("%q", want) {
		t.Fatalf("P603: %q, not %q", end, want)
	}
}
