package coord_test

import (
	"fmt"
	"strings"
	"testing"

	"federation/api"
	"federation/coord"
	"federation/db"
	"federation/shard"
	"federation/sql"
)

// die throws, each time the same.
type die struct{ n uint64 }

func (d *die) of(k int) int {
	d.n = d.n*6364136223846793005 + 1442695040888963407
	return int(d.n>>33) % k
}

func one[T any](d *die, l ...T) T { return l[d.of(len(l))] }

// read are the statements of a text.
func read(t *testing.T, s string) []api.Stmt {
	t.Helper()
	l, at, e := sql.ParseAll(s)
	if e != api.OK {
		t.Fatalf("%s: %d, %v", s, at, e)
	}
	return l
}

// tables are what statements make of nothing.
func tables(t *testing.T, s string) []api.Tab {
	t.Helper()
	d, at, e := db.All(nil, read(t, s))
	if e != api.OK {
		t.Fatalf("%s: %d, %v", s, at, e)
	}
	return d
}

// pairs are those of a text like "a=1 b=2".
func pairs(text string) []api.Pair {
	var l []api.Pair
	for _, word := range strings.Fields(text) {
		k, v, _ := strings.Cut(word, "=")
		l = append(l, api.Pair{K: k, V: v})
	}
	return l
}

// writes are those of a text like "a=1 b": of b, that it is gone.
func writes(text string) []api.Write {
	var l []api.Write
	for _, word := range strings.Fields(text) {
		k, v, is := strings.Cut(word, "=")
		l = append(l, api.Write{K: k, V: v, Gone: !is})
	}
	return l
}

// said is a transaction as a text: no list and an empty one are the same.
func said(t coord.Txn) string {
	return fmt.Sprintf("No %d, Stage %d, Shard %d, Mark %q, Mend %v, Over %v, E %d\nL %+v\nPairs %q\nWrites %s\nMade %s\nAnswers %s",
		t.No, t.Stage, t.Shard, t.Mark, t.Mend, t.Over, int(t.E), t.L, t.Pairs, saidWrites(t.Writes), saidMade(t.Made), saidAnswers(t.Answers))
}

func saidWrites(l []api.Write) string {
	var b strings.Builder
	for _, w := range l {
		fmt.Fprintf(&b, "(%q %q %v)", w.K, w.V, w.Gone)
	}
	return b.String()
}

func saidMade(m shard.Made) string {
	return fmt.Sprintf("{%d %v %s}", m.Txn, m.Commit, saidWrites(m.Writes))
}

func saidAnswers(l []api.Answer) string {
	var b strings.Builder
	for _, a := range l {
		fmt.Fprintf(&b, "[%d %d", int(a.E), a.N)
		for _, row := range a.Rows {
			b.WriteString(" row")
			for _, v := range row {
				fmt.Fprintf(&b, " (%d %d %d %q)", v.Kind, v.N, v.Scale, v.S)
			}
		}
		b.WriteString("]")
	}
	return b.String()
}

func saidCmd(c api.Cmd) string {
	return fmt.Sprintf("kind %d, id %d, txn %d, commit %v, writes %s, text %q", c.Kind, c.Id, c.Txn, c.Commit, saidWrites(c.Writes), c.Text)
}

// same holds that a transaction is as it should be.
func same(t *testing.T, what string, got, want coord.Txn) {
	t.Helper()
	if g, w := said(got), said(want); g != w {
		t.Errorf("%s:\n%.3000s\nnot\n%.3000s", what, g, w)
	}
}

// wanted holds what a transaction wants.
func wanted(t *testing.T, x coord.Txn, splits []string, at int, c api.Cmd) {
	t.Helper()
	gotAt, got, is := coord.Want(x, splits)
	if !is || gotAt != at || saidCmd(got) != saidCmd(c) {
		t.Errorf("P1102: Want, over %q, of\n%.3000s\n%v: at %d: %s\nnot at %d: %s", splits, said(x), is, gotAt, saidCmd(got), at, saidCmd(c))
	}
}

// unwanted holds that a transaction wants nothing, and that zero values stand beside the false (P4).
func unwanted(t *testing.T, x coord.Txn, splits []string) {
	t.Helper()
	at, c, is := coord.Want(x, splits)
	if is || at != 0 || saidCmd(c) != saidCmd(api.Cmd{}) {
		t.Errorf("P1102: Want, over %q, of\n%.3000s\n%v: at %d: %s", splits, said(x), is, at, saidCmd(c))
	}
}

func lock(id, txn int) api.Cmd { return api.Cmd{Kind: api.CLock, Id: id, Txn: txn} }

func decide(id, txn int, commit bool, l ...api.Write) api.Cmd {
	return api.Cmd{Kind: api.CDecide, Id: id, Txn: txn, Commit: commit, Writes: l}
}

func finish(id, txn int, commit bool, l ...api.Write) api.Cmd {
	return api.Cmd{Kind: api.CFinish, Id: id, Txn: txn, Commit: commit, Writes: l}
}

// ok is what a command is told that finds no pairs.
var ok = shard.Told{Ok: true}

// has is what a lock is told that finds pairs.
func has(l ...api.Pair) shard.Told { return shard.Told{Ok: true, Pairs: l} }

// made is what is told of a decision.
func made(txn int, commit bool, l ...api.Write) shard.Told {
	return shard.Told{Ok: true, Made: shard.Made{Txn: txn, Commit: commit, Writes: l}}
}

// told is a transaction when it is told one thing behind the other.
func told(x coord.Txn, splits []string, l ...shard.Told) coord.Txn {
	for _, a := range l {
		x = coord.Told(x, splits, a)
	}
	return x
}

// The splits of one shard to five, that part tables, marks and rows.
var ways = [][]string{nil, {"p"}, {"cu", "r"}, {"a", "p2", "ru"}, {"cu", "p", "rt\x00", "ru"}}

// Tables of two kinds, of which one links to the other.
const both = "create table t (a int not null, b text, primary key (a), unique (b)); insert into t values (5, 'x'); insert into t values (7, null);" +
	"create table u (k text not null, a int, primary key (k), check (a < 100), foreign key (a) references t); insert into u values ('one', 5);"
