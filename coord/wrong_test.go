package coord_test

import (
	"fmt"
	"math"
	"strings"
	"testing"

	"federation/api"
	"federation/coord"
	"federation/shard"
)

// strange are splits that may not be: that do not rise, that are there twice, that are more than four.
var strange = [][]string{{"r", "b"}, {"m", "m", "m"}, {"z", "", "a", ""}, {"a", "b", "c", "d", "e", "f", "g", "h", "i", "j", "k", "l"}}

// wild are transactions that nothing tells.
func wild(t *testing.T) []coord.Txn {
	t.Helper()
	l := mixed(t, both)
	stmts := []api.Stmt{
		{}, {Kind: 99}, {Kind: -1}, {Kind: api.SCreate}, {Kind: api.SInsert, Name: "t"}, {Kind: api.SUpdate, Name: "t", Col: "a"},
		{Kind: api.SCreate, T: api.Table{Name: "v", Key: -1, Unique: []int{9}, Links: []api.Link{{Col: 7, Table: "t"}}, Check: api.Expr{Kind: api.XNot}}},
		{Kind: api.SDelete, Name: "t", Where: api.Expr{Kind: api.XAnd, L: []api.Expr{{Kind: 77}}}},
		{Kind: api.SInsert, Name: "t", Row: []api.Value{{Kind: 9, N: math.MinInt, Scale: -3}, {Kind: api.TDec, Scale: 99}}},
		{Kind: api.SUpdate, Name: "t", Col: "a", E: api.Expr{Kind: api.XNeg, L: []api.Expr{{Kind: api.XLit, V: api.Value{Kind: api.TInt, N: math.MinInt}}}}},
	}
	var out []coord.Txn
	for i := range stmts {
		out = append(out, coord.Txn{No: 1, L: stmts[i:]}, coord.Txn{No: 1, L: stmts[i : i+1], Mark: "p"})
	}
	for _, n := range []int{math.MinInt, -100, -1, 0, 1, 2, 3, 100, math.MaxInt} {
		out = append(out, coord.Txn{No: n}, coord.Txn{No: n, Stage: 1, Mend: true}, coord.New(n, "", nil), coord.Recover(n))
		for stage := range 4 {
			out = append(out, coord.Txn{No: 1, Stage: n, Shard: stage}, coord.Txn{No: 1, Stage: stage, Shard: n, Made: made(1, true, writes("a b=1")...).Made})
		}
		out = append(out, coord.Txn{No: 1, E: api.Errno(n), Over: n == 1, Writes: writes("b=1 a"), Stage: 1})
	}
	return append(out, coord.Txn{Pairs: append(l, l...), L: read(t, both)}, coord.Txn{Pairs: []api.Pair{{}, {}}, Mark: "p"})
}

// Whatever a call is handed, it ends, and changes nothing of it (P1, P2, P8).
func TestWild(t *testing.T) {
	l := mixed(t, both, "p")
	backwards := append(append([]api.Pair(nil), l[3:]...), l[:3]...)
	answers := append(tolds(t), has(backwards...), has(append(l, l...)...), has(api.Pair{}, api.Pair{}), made(-1, true, writes("z a z")...), made(5, false, writes("a=1")...))
	for _, splits := range append(ways, strange...) {
		splits = roomy(splits)
		for _, x := range wild(t) {
			x = roomy(x)
			before := spare(x) + spare(splits)
			_, c, is := coord.Want(x, splits)
			if !is && saidCmd(c) != saidCmd(api.Cmd{}) {
				t.Fatalf("P4: Want tells %s", saidCmd(c))
			}
			apart(t, "Want", x, splits, c)
			for _, a := range answers {
				a = roomy(a)
				was := spare(a)
				got, again := coord.Told(x, splits, a), coord.Told(x, splits, a)
				if spare(x)+spare(splits) != before || spare(a) != was {
					t.Fatalf("P2: Told changes what it is handed: %s", said(x))
				}
				same(t, "P3: Told", got, again)
				apart(t, "Told", x, splits, a, got, again)
			}
		}
	}
}

// Of a shard that is none, in a stage that is none, nothing is wanted (P9).
func TestOutOfBounds(t *testing.T) {
	for n, splits := range ways {
		for _, out := range []int{math.MinInt, -1, n + 1, n + 2, 100, math.MaxInt} {
			for stage := range 3 {
				unwanted(t, coord.Txn{No: 1, Stage: stage, Shard: out}, splits)
			}
		}
		for _, out := range []int{math.MinInt, -1, 3, 4, math.MaxInt} {
			for at := range n + 1 {
				unwanted(t, coord.Txn{No: 1, Stage: out, Shard: at}, splits)
			}
		}
	}
}

// What Diff and Home are handed may lie in any order.
func TestStrangeLists(t *testing.T) {
	for _, x := range []struct{ a, b, want string }{
		{"b=1 a=1", "a=1 b=1", ""},
		{"c=1 b=2 a=3", "d=4 a=3 b=1", "b=1 c d=4"},
		{"p=1 a=2", "", "a p"},
	} {
		if got := coord.Diff(pairs(x.a), pairs(x.b)); saidWrites(got) != saidWrites(writes(x.want)) {
			t.Errorf("P1101: Diff of %s and %s: %s", x.a, x.b, saidWrites(got))
		}
	}
	twice := pairs("a=1 a=2 b=1 a=1")
	coord.Diff(twice, pairs("a=1"))
	coord.Diff(pairs("a=1"), twice)
	coord.Diff(twice, twice)
	for _, splits := range strange {
		if at := coord.Home(splits, "zz"); at != len(splits) {
			t.Errorf("P1101: Home of zz in %q: %d", splits, at)
		}
	}
}

// Statements may be as deep and as many as sql.ParseAll tells them.
func TestLargeStatements(t *testing.T) {
	deep := "select * from t where " + strings.Repeat("a + ", 20000) + "a = 1;"
	x := coord.Told(coord.New(1, "", read(t, deep)), nil, has(mixed(t, both)...))
	if x.E != api.OK || len(x.Answers) != 1 {
		t.Errorf("P1103: %d, %s", int(x.E), saidAnswers(x.Answers))
	}
	many := strings.Repeat("drop table z;", 7000)
	x = coord.Told(coord.New(1, "", read(t, many)), nil, ok)
	if x.E != api.NoTable || len(x.L) != 7000 || len(x.Answers) > 0 {
		t.Errorf("P1103: %d, %d statements", int(x.E), len(x.L))
	}
	var each strings.Builder
	for i := range 60 {
		fmt.Fprintf(&each, "insert into t values (%d, null);", i+10)
	}
	x = coord.Told(coord.New(1, "", read(t, ofT+";"+each.String()+strings.Repeat("select count(*) from t;", 3000))), nil, shard.Told{Ok: true})
	if x.E != api.OK || len(x.Answers) != 3061 || x.Answers[3060].N != 60 || len(x.Writes) != 61 {
		t.Errorf("P1103: %d, %d answers, %d writes", int(x.E), len(x.Answers), len(x.Writes))
	}
}
