package coord_test

import (
	"fmt"
	"slices"
	"strings"
	"testing"

	"federation/api"
	"federation/cmd"
	"federation/coord"
	"federation/db"
)

// reckons is what a transaction becomes that finds pairs at the only shard; it holds what never changes.
func reckons(t *testing.T, mark, text string, l []api.Pair) coord.Txn {
	t.Helper()
	x := coord.New(1, mark, read(t, text))
	got := coord.Told(x, nil, has(l...))
	want := x
	want.Stage, want.Pairs = 1, l
	want.E, want.Answers, want.Writes = got.E, got.Answers, got.Writes
	same(t, "P1103: beside what is reckoned", got, want)
	return got
}

// goes holds what a transaction is told, and what it writes.
func goes(t *testing.T, mark, text string, l []api.Pair, answers []api.Answer, w []api.Write) {
	t.Helper()
	x := reckons(t, mark, text, l)
	if x.E != api.OK || saidAnswers(x.Answers) != saidAnswers(answers) || saidWrites(x.Writes) != saidWrites(w) {
		t.Errorf("P1103: %q, %s over %q: %d, %s, %s\nnot %s, %s", mark, text, l, int(x.E), saidAnswers(x.Answers), saidWrites(x.Writes), saidAnswers(answers), saidWrites(w))
	}
}

// fails holds that a transaction is refused: it is told nothing, and writes nothing.
func fails(t *testing.T, mark, text string, l []api.Pair, e api.Errno) {
	t.Helper()
	x := reckons(t, mark, text, l)
	if x.E != e || len(x.Answers) > 0 || len(x.Writes) > 0 {
		t.Errorf("P1103: %q, %s over %q: %d, %s, %s\nnot %d", mark, text, l, int(x.E), saidAnswers(x.Answers), saidWrites(x.Writes), int(e))
	}
}

// mixed are the pairs of tables, with marks between, by K.
func mixed(t *testing.T, text string, marks ...string) []api.Pair {
	t.Helper()
	l := db.Store(tables(t, text))
	for _, k := range marks {
		l = append(l, api.Pair{K: k, V: "v" + k})
	}
	slices.SortFunc(l, func(a, b api.Pair) int { return strings.Compare(a.K, b.K) })
	return l
}

const ofT = "create table t (a int not null, b text, primary key (a), unique (b))"

// rowT is the pair of a row of t: its key is a byte below 128.
func rowT(a byte, v string) api.Pair {
	return api.Pair{K: "rt\x00" + bytesOf(a), V: v}
}

// bytesOf is the key of a small number.
func bytesOf(a byte) string { return "\x02\x80\x00\x00\x00\x00\x00\x00" + string([]byte{a}) }

func row(l ...api.Value) []api.Value { return l }

func number(n int) api.Value { return api.Value{Kind: api.TInt, N: n} }

func text(s string) api.Value { return api.Value{Kind: api.TText, S: s} }

func put(p api.Pair) api.Write { return api.Write{K: p.K, V: p.V} }

func gone(p api.Pair) api.Write { return api.Write{K: p.K, Gone: true} }

// Statements that all go well.
func TestReckonsWell(t *testing.T) {
	done, once := api.Answer{}, api.Answer{N: 1}
	l := mixed(t, both, "p", "p0001")
	t5, t7 := rowT(5, l[4].V), rowT(7, l[5].V)
	if l[4].K != t5.K || l[5].K != t7.K || len(l) != 7 {
		t.Fatalf("pairs are %q", l)
	}
	goes(t, "", "", l, nil, nil)
	goes(t, "", "select * from t;", l, []api.Answer{{Rows: [][]api.Value{row(number(5), text("x")), row(number(7), api.Value{})}}}, nil)
	goes(t, "", "select count(*) from u where a is null; select count(*) from t;", l, []api.Answer{{}, {N: 2}}, nil)
	goes(t, "", "delete from t where a = 7;", l, []api.Answer{once}, []api.Write{gone(t7)})
	goes(t, "", "drop table u;", l, []api.Answer{done}, []api.Write{gone(l[1]), gone(l[6])})
	goes(t, "", "drop table u; drop table t;", l, []api.Answer{done, done}, []api.Write{gone(l[0]), gone(l[1]), gone(t5), gone(t7), gone(l[6])})
	goes(t, "", "update t set b = 'y' where a = 5; update t set b = 'x' where a = 5;", l, []api.Answer{once, once}, nil)
	x9 := rowT(9, strings.Replace(l[5].V, "\x07", "\x09", 1))
	goes(t, "", "update t set a = 9 where a = 7;", l, []api.Answer{once}, []api.Write{gone(t7), put(x9)})
	goes(t, "", "insert into t values (9, null); delete from t where a = 7; select * from t;", l,
		[]api.Answer{once, once, {Rows: [][]api.Value{row(number(5), text("x")), row(number(9), api.Value{})}}}, []api.Write{gone(t7), put(x9)})
	v := api.Pair{K: "cv", V: "create table v (k bool not null, primary key (k))"}
	goes(t, "", v.V+";", l, []api.Answer{done}, []api.Write{put(v)})
	goes(t, "p0000", v.V+"; delete from t where a = 7;", l, []api.Answer{done, once}, []api.Write{put(v), {K: "p0000", V: "1"}, gone(t7)})
	goes(t, "p0000", v.V+"; drop table v;", l, []api.Answer{done, done}, []api.Write{{K: "p0000", V: "1"}})
	goes(t, "p0000", v.V+";", nil, []api.Answer{done}, []api.Write{put(v), {K: "p0000", V: "1"}})
}

// A mark's place among the writes is by K, wherever that is.
func TestReckonsMarks(t *testing.T) {
	l := mixed(t, both)
	s := "create table v (k bool not null, primary key (k)); drop table u;"
	v := api.Write{K: "cv", V: "create table v (k bool not null, primary key (k))"}
	for _, x := range []struct {
		mark string
		at   int
	}{{"", -1}, {"a", 0}, {"\x00", 0}, {"cs", 0}, {"cu\x00", 1}, {"d", 2}, {"p", 2}, {"p0001", 2}, {"p and more", 2}, {"q", 2}, {"s", 3}, {"\xff", 3}} {
		w := []api.Write{gone(l[1]), v, gone(l[4])}
		if x.at >= 0 {
			w = slices.Insert(w, x.at, api.Write{K: x.mark, V: "1"})
		}
		goes(t, x.mark, s, l, []api.Answer{{}, {}}, w)
	}
	// One that is the K of what is put there is put there behind it.
	goes(t, "cv", s, l, []api.Answer{{}, {}}, []api.Write{gone(l[1]), v, {K: "cv", V: "1"}, gone(l[4])})
}

// Where the mark is, nothing is done: neither is anything refused.
func TestReckonsMarked(t *testing.T) {
	unsound := append(mixed(t, both), api.Pair{K: "x"})
	for _, l := range [][]api.Pair{mixed(t, both, "p0001"), mixed(t, "", "p0001"), mixed(t, "", "p", "p0001", "pz"), append(unsound, api.Pair{K: "p0001", V: "0"}), {{K: "p0001"}}} {
		for _, s := range []string{"", "drop table u; drop table t;", "drop table z;", ofT + ";"} {
			goes(t, "p0001", s, l, nil, nil)
		}
	}
	l := mixed(t, both, "p")
	goes(t, "ct", "drop table u;", l, nil, nil)
	goes(t, l[0].K, "drop table z;", l, nil, nil)
	goes(t, l[len(l)-1].K, "drop table z;", l, nil, nil)
	// What is like the mark is not it.
	m, without := mixed(t, both, "p0001"), mixed(t, both[:strings.Index(both, "create table u")], "p0001")
	for _, k := range []string{"p", "p000", "p00011", "p0002", "p0001\x00", "P0001", "1"} {
		fails(t, k, "drop table z;", m, api.NoTable)
		goes(t, k, "drop table u;", m, []api.Answer{{}}, changes(t, m, without, k))
	}
}

// changes is what makes b of a, and sets a mark, if there is one.
func changes(t *testing.T, a, b []api.Pair, mark string) []api.Write {
	t.Helper()
	l := coord.Diff(a, b)
	if mark != "" {
		l = append(l, api.Write{K: mark, V: "1"})
	}
	slices.SortFunc(l, func(a, b api.Write) int { return strings.Compare(a.K, b.K) })
	return l
}

// Of pairs that no tables tell nothing is reckoned; those that begin with `p` do not count.
func TestReckonsNoTables(t *testing.T) {
	l := mixed(t, both)
	swapped := slices.Clone(l)
	swapped[0], swapped[1] = l[1], l[0]
	bent := slices.Clone(l)
	bent[4].V += "\x00"
	for _, bad := range [][]api.Pair{
		{{K: "x"}}, {{}}, {{K: "ct"}}, {{K: "ct", V: ofT + ";"}}, {{K: "P0001", V: "1"}}, {{K: "o"}, {K: "p"}}, {{K: "p"}, {K: "q"}},
		l[1:], l[1 : len(l)-2], append(slices.Clone(l), l[0]), swapped, bent, slices.Concat(l[:1], l[2:]),
	} {
		for _, mark := range []string{"", "p0001"} {
			for _, s := range []string{"", "drop table z;", "create table v (k bool not null, primary key (k));"} {
				fails(t, mark, s, bad, api.NotThere)
			}
		}
	}
	for _, good := range [][]api.Pair{nil, {}, {{K: "p"}}, {{K: "p"}, {K: "p0001"}, {K: "pct", V: "?"}, {K: "p\xff"}}, mixed(t, "", "p")} {
		goes(t, "", "", good, nil, nil)
		goes(t, "pm", "", good, nil, []api.Write{{K: "pm", V: "1"}})
		goes(t, "", ofT+";", good, []api.Answer{{}}, []api.Write{{K: "ct", V: ofT}})
	}
}

// One that is refused, wherever it stands, is all that is told.
func TestReckonsRefused(t *testing.T) {
	l := mixed(t, both, "p")
	good := []string{"insert into t values (8, 'z');", "select * from t;", "update u set k = 'two';"}
	for s, e := range map[string]api.Errno{
		"drop table z;":             api.NoTable,
		ofT + ";":                   api.Exists,
		"update t set c = 1;":       api.NoCol,
		"insert into t values (1);": api.Type,
		"create table v (a int, primary key (a));":        api.Type,
		"select * from t where b;":                        api.Type,
		"insert into t values (null, 'y');":               api.Null,
		"insert into u values ('three', 100);":            api.Check,
		"insert into t values (5, 'y');":                  api.Dup,
		"insert into u values ('three', 6);":              api.Ref,
		"drop table t;":                                   api.Ref,
		"update t set a = 9223372036854775807 + a;":       api.Overflow,
		"alter table t add foreign key (a) references z;": api.NoTable,
	} {
		for at := range len(good) + 1 {
			all := slices.Insert(slices.Clone(good), at, s)
			for _, mark := range []string{"", "p0001"} {
				fails(t, mark, strings.Join(all, ""), l, e)
				fails(t, mark, strings.Join(all[at:], ""), l, e)
				fails(t, mark, strings.Join(all[:at+1], ""), l, e)
			}
		}
	}
}

// Whatever is refused last, the first one counts.
func TestReckonsFirstError(t *testing.T) {
	l := mixed(t, both)
	fails(t, "", "drop table z; insert into t values (5, 'y');", l, api.NoTable)
	fails(t, "", "insert into t values (5, 'y'); drop table z;", l, api.Dup)
	fails(t, "", "select * from t; insert into t values (1); select * from t; drop table z;", l, api.Type)
}

// The pairs of several shards are those of one whole.
func TestReckonsOverShards(t *testing.T) {
	l := mixed(t, both, "p", "p0001", "p2")
	s := read(t, "select * from u; update t set b = 'y' where a = 7; drop table u;")
	alone := coord.Told(coord.New(3, "p0002", s), nil, has(l...))
	if alone.E != api.OK || len(alone.Writes) != 4 {
		t.Fatalf("P1103: %s", said(alone))
	}
	for _, splits := range ways {
		x := coord.New(3, "p0002", s)
		for at := range len(splits) + 1 {
			var here []api.Pair
			for _, p := range l {
				if coord.Home(splits, p.K) == at {
					here = append(here, p)
				}
			}
			x = coord.Told(x, splits, has(here...))
		}
		same(t, fmt.Sprintf("P1103: reckoned over %q", splits), x, alone)
	}
}

// As many tables and rows as there may be, all other ones than before: a command can say it.
func TestReckonsMost(t *testing.T) {
	var was, is, drop strings.Builder
	for i := range api.MaxTables {
		fmt.Fprintf(&was, "create table old%d (a int not null, primary key (a));", i)
		fmt.Fprintf(&is, "create table new%d (a int not null, primary key (a));", i)
		fmt.Fprintf(&drop, "drop table old%d;", i)
		for n := range api.MaxRows {
			fmt.Fprintf(&was, "insert into old%d values (%d);", i, n)
			fmt.Fprintf(&is, "insert into new%d values (%d);", i, n)
		}
	}
	l := mixed(t, was.String(), "p")
	x := reckons(t, "p0001", drop.String()+is.String(), l)
	const all = 8 * 61
	if x.E != api.OK || len(x.Answers) != 8+all || len(x.Writes) != 2*all+1 {
		t.Fatalf("P1103: %d, %d answers, %d writes", int(x.E), len(x.Answers), len(x.Writes))
	}
	_, c, _ := coord.Want(x, nil)
	if _, is := cmd.Encode(c, 1); !is {
		t.Error("P1102: no command")
	}
	end := becomes(t, l, x.Writes)
	next := append(mixed(t, is.String(), "p"), api.Pair{K: "p0001", V: "1"})
	slices.SortFunc(next, func(a, b api.Pair) int { return strings.Compare(a.K, b.K) })
	if !slices.Equal(end, next) {
		t.Error("P1103: the writes make other pairs")
	}
}
