package dump_test

import (
	"fmt"
	"math"
	"slices"
	"strings"
	"testing"

	"federation/api"
	"federation/db"
	"federation/dump"
)

const ofT = "create table t (a int not null, primary key (a))"

// Pairs of a table t, and of its row 1.
var (
	pairT = api.Pair{K: "ct", V: ofT}
	pairR = api.Pair{K: "rt\x00\x02\x80\x00\x00\x00\x00\x00\x00\x01", V: "\x01\x02\x80\x00\x00\x00\x00\x00\x00\x01"}
)

// pairsAre says what pairs are, in their order.
func pairsAre(t *testing.T, l []api.Pair, want ...api.Pair) {
	t.Helper()
	if !slices.Equal(l, want) {
		t.Errorf("P602: %q, not %q", l, want)
	}
}

// A chunk's mark comes with what it does; what is there stays; all is by K.
func TestApply(t *testing.T) {
	chunks := []api.Chunk{{Phase: 0, Text: ofT + ";"}, {Phase: 1, Text: "insert into t values (1);\n"}, {Phase: 1, Text: "update t set a = a + 0; delete from t where a = 5; select * from t;"}, {Phase: 2, Text: "drop table t;"}, {Phase: 2}}
	l := brings(t, nil, chunks, 0, api.OK)
	pairsAre(t, l, pairT, mark(0))
	l = brings(t, l, chunks, 2, api.OK)
	pairsAre(t, l, pairT, mark(0), mark(2))
	l = brings(t, l, chunks, 1, api.OK)
	pairsAre(t, l, pairT, mark(0), mark(1), mark(2), pairR)
	l = brings(t, l, chunks, 4, api.OK)
	pairsAre(t, l, pairT, mark(0), mark(1), mark(2), mark(4), pairR)
	l = brings(t, l, chunks, 3, api.OK)
	pairsAre(t, l, mark(0), mark(1), mark(2), mark(3), mark(4))
	end, e := dump.Finish(l, chunks)
	if e != api.OK || len(end) > 0 {
		t.Errorf("P602: %v, %v", end, e)
	}
}

// What is brought in again changes nothing, whatever else stands there.
func TestApplyTwice(t *testing.T) {
	chunks := []api.Chunk{{Phase: 3, Text: "no text"}, {Phase: 1, Text: ofT + ";"}, {Phase: 2, Text: "insert into t values (1);"}}
	for _, l := range [][]api.Pair{
		marks(0),
		{mark(0), mark(2)},
		{pairT, mark(0), pairR},
		{{K: "a"}, mark(0), {K: "p0001", V: "2"}, {K: "z", V: "z"}},
		{mark(0), mark(9999)},
	} {
		pairsAre(t, brings(t, l, chunks, 0, api.OK), l...)
	}
	l := brings(t, nil, chunks, 1, api.OK)
	pairsAre(t, brings(t, l, chunks, 1, api.OK), l...)
	l = brings(t, l, chunks, 2, api.OK)
	pairsAre(t, brings(t, brings(t, l, chunks, 2, api.OK), chunks, 1, api.OK), l...)
}

func TestPlacesOfNoChunk(t *testing.T) {
	chunks := []api.Chunk{{}, {Phase: 1}}
	for _, at := range []int{math.MinInt, -10000, -1, 2, 3, 9999, 10000, math.MaxInt} {
		for _, l := range [][]api.Pair{nil, marks(0, 1), marks(2, 3, 9999), {{K: "x"}}} {
			brings(t, l, chunks, at, api.NotThere)
		}
		brings(t, nil, nil, at, api.NotThere)
		brings(t, marks(0, 2, 9999), nil, at, api.NotThere)
	}
	brings(t, nil, nil, 0, api.NotThere)
	brings(t, marks(0), nil, 0, api.NotThere)
}

// Four digits say the places up to 9999: the chunks behind have no mark, so they are never in.
func TestPlacesBeyondTheLast(t *testing.T) {
	chunks := make([]api.Chunk, 10002)
	chunks[42].Text = ofT + ";"
	var l []api.Pair
	for _, at := range []int{9999, 0, 1000, 42, 999, 100, 7} {
		l = brings(t, l, chunks, at, api.OK)
	}
	pairsAre(t, l, pairT, mark(0), mark(7), mark(42), mark(100), mark(999), mark(1000), mark(9999))
	for _, at := range []int{10000, 10001} {
		brings(t, l, chunks, at, api.NotThere)
	}
	l = nil
	for at := range 10000 {
		l = append(l, mark(at))
	}
	if left := dump.Left(l, chunks); fmt.Sprint(left) != "[10000 10001]" {
		t.Errorf("P602: %v is left", left)
	}
	if end, e := dump.Finish(l, chunks); e != api.Wait || len(end) > 0 {
		t.Errorf("P602: Finish: %q, %v", end, e)
	}
	if end, e := dump.Finish(l, chunks[:10000]); e != api.OK || len(end) > 0 {
		t.Errorf("P602: Finish: %q, %v", end, e)
	}
	chunks[10001].Phase = -1
	brings(t, l[1:], chunks, 0, api.Wait)
}

// A chunk waits for all of lower phases, wherever they stand, and for no others.
func TestWait(t *testing.T) {
	phases := []int{5, math.MinInt, 5, 0, math.MaxInt, -7, 0}
	chunks := make([]api.Chunk, len(phases))
	for i, p := range phases {
		chunks[i].Phase = p
	}
	for have := range 1 << len(phases) {
		var in []int
		for i := range phases {
			if have>>i&1 == 1 {
				in = append(in, i)
			}
		}
		l := marks(in...)
		for at := range phases {
			want := api.OK
			for i, p := range phases {
				if p < phases[at] && have>>i&1 == 0 && have>>at&1 == 0 {
					want = api.Wait
				}
			}
			next := brings(t, l, chunks, at, want)
			if want == api.Wait {
				continue
			}
			all := append(slices.Clone(in), at)
			slices.Sort(all)
			pairsAre(t, next, marks(slices.Compact(all)...)...)
		}
	}
}

// likeMarks are pairs that only look like marks.
func likeMarks() []api.Pair {
	return []api.Pair{
		{K: "p0000", V: ""}, {K: "p0000", V: "0"}, {K: "p0000", V: "2"}, {K: "p0000", V: "01"}, {K: "p0000", V: "11"}, {K: "p0000", V: "1 "}, {K: "p0000", V: " 1"},
		{K: "p", V: "1"}, {K: "p0", V: "1"}, {K: "p000", V: "1"}, {K: "p00000", V: "1"}, {K: "p10000", V: "1"}, {K: "p0000 ", V: "1"}, {K: "p 000", V: "1"},
		{K: "p+000", V: "1"}, {K: "p-000", V: "1"}, {K: "p000a", V: "1"}, {K: "pa000", V: "1"}, {K: "p0x00", V: "1"}, {K: "p0_00", V: "1"}, {K: "p000:", V: "1"}, {K: "p/000", V: "1"}, {K: "p0.00", V: "1"}, {K: "p\x000000", V: "1"}, {K: "p\x00000", V: "1"}, {K: "p00\u0660", V: "1"},
		{K: "", V: "1"}, {K: "0000", V: "1"}, {K: "00000", V: "1"}, {K: "P0000", V: "1"}, {K: "q0000", V: "1"}, {K: "o0000", V: "1"}, {K: "pp000", V: "1"}, {K: "rp0000", V: "1"}, {K: "cp0000", V: "1"},
	}
}

func TestPairsThatLookLikeMarks(t *testing.T) {
	chunks := []api.Chunk{{Text: ofT + ";"}, {Phase: 1}}
	for _, p := range likeMarks() {
		l := []api.Pair{p}
		if left := dump.Left(l, chunks); fmt.Sprint(left) != "[0 1]" {
			t.Errorf("P602: %q: %v is left", p, left)
		}
		brings(t, l, chunks, 0, api.NotThere)
		brings(t, l, chunks, 1, api.Wait)
		if end, e := dump.Finish(l, chunks); e != api.Wait || len(end) > 0 {
			t.Errorf("P602: %q: Finish: %q, %v", p, end, e)
		}
		// they stay, where marks go
		end, e := dump.Finish(l, nil)
		if e != api.OK {
			t.Errorf("P602: %q: Finish: %v", p, e)
		}
		pairsAre(t, end, p)
		l = append(slices.Clone(l), mark(0), mark(1))
		slices.SortStableFunc(l, func(a, b api.Pair) int { return strings.Compare(a.K, b.K) })
		if end, e = dump.Finish(l, chunks); e != api.OK {
			t.Errorf("P602: %q: Finish: %v", p, e)
		}
		pairsAre(t, end, p)
	}
}

// Marks of chunks that are not there are marks as well: they stay, till all is finished.
func TestMarksOfOtherChunks(t *testing.T) {
	chunks := []api.Chunk{{Text: ofT + ";"}}
	others := marks(1, 10, 99, 500, 1234, 9000, 9999)
	if left := dump.Left(others, chunks); fmt.Sprint(left) != "[0]" {
		t.Errorf("P602: %v is left", left)
	}
	l := brings(t, others, chunks, 0, api.OK)
	pairsAre(t, l, append([]api.Pair{pairT, mark(0)}, others...)...)
	end, e := dump.Finish(l, chunks)
	if e != api.OK {
		t.Errorf("P602: %v", e)
	}
	pairsAre(t, end, pairT)
}

func TestLeft(t *testing.T) {
	chunks := []api.Chunk{{Phase: 7, Text: "no text"}, {}, {}, {Phase: -1}}
	for _, x := range []struct {
		l    []api.Pair
		n    int
		want string
	}{
		{nil, 0, "[]"}, {nil, 4, "[0 1 2 3]"}, {marks(0, 1, 2, 3), 4, "[]"}, {marks(0, 1, 2, 3), 0, "[]"}, {marks(3), 4, "[0 1 2]"}, {marks(3), 3, "[0 1 2]"}, {marks(0, 2), 4, "[1 3]"}, {marks(1, 4, 5), 4, "[0 2 3]"},
		{[]api.Pair{{K: "a"}, mark(1), {K: "p0002"}, {K: "z"}}, 4, "[0 2 3]"},
	} {
		left := dump.Left(x.l, chunks[:x.n])
		if fmt.Sprint(left) != x.want {
			t.Errorf("P602: Left of %q: %v, not %s", x.l, left, x.want)
		}
		end, e := dump.Finish(x.l, chunks[:x.n])
		if (e == api.OK) != (len(left) == 0) || e != api.OK && (e != api.Wait || len(end) > 0) {
			t.Errorf("P602: Finish of %q: %q, %v", x.l, end, e)
		}
	}
}

// Finish does not ask what the pairs are that are no marks.
func TestFinish(t *testing.T) {
	chunks := []api.Chunk{{}, {}}
	others := []api.Pair{{K: ""}, {K: "\x00", V: "1"}, {K: "ct", V: "no text"}, {K: "p000", V: "1"}, {K: "p0002", V: "3"}, {K: "q"}, {K: "\xff", V: "\xff"}}
	l := slices.Concat(others[:4], marks(0, 1), others[4:5], marks(3, 4), others[5:])
	end, e := dump.Finish(l, chunks)
	if e != api.OK {
		t.Errorf("P602: %v", e)
	}
	pairsAre(t, end, others...)
	if end, e = dump.Finish(nil, nil); e != api.OK || len(end) > 0 {
		t.Errorf("P602: %q, %v", end, e)
	}
}

// The errors come in the order in which the chapter names them, whichever of them apply together.
func TestOrderOfErrors(t *testing.T) {
	const (
		noChunk = 1 << iota
		isIn
		waits
		noLoad
		noText
		noAll
		all
	)
	for faults := range all {
		chunks := []api.Chunk{{Phase: 1}, {Phase: 0}}
		at, want := 0, api.OK
		var l []api.Pair
		if faults&noAll != 0 {
			chunks[0].Text, want = "drop table z; ", api.NoTable
		}
		if faults&noText != 0 {
			chunks[0].Text, want = chunks[0].Text+"drop table z", api.BadText
		}
		if faults&noLoad != 0 {
			l, want = append(l, api.Pair{K: "ct", V: "create table"}), api.NotThere
		}
		if faults&isIn != 0 {
			l, want = append(l, mark(0)), api.OK
		}
		if faults&waits == 0 {
			l = append(l, mark(1))
		} else if faults&isIn == 0 {
			want = api.Wait
		}
		if faults&noChunk != 0 {
			at, want = 2, api.NotThere
			if faults&isIn != 0 {
				l = append(l, mark(2))
			}
		}
		next := brings(t, l, chunks, at, want)
		if faults&isIn != 0 {
			pairsAre(t, next, l...)
		}
	}
}

// The errors of the layers below are told as they are; nothing of the chunk is done then.
func TestErrorsFromBelow(t *testing.T) {
	l := []api.Pair{pairT, mark(3), pairR}
	for _, x := range []struct {
		text string
		e    api.Errno
	}{
		{"drop table t", api.BadText},
		{"drop table t;;", api.BadText},
		{"delete from t; ?", api.BadText},
		{"delete from t; drop table z; ?", api.BadText},
		{"delete from t where a = 9223372036854775808;", api.Limit},
		{"drop table abcdefghijklm;", api.Limit},
		{strings.Repeat(" ", 100001), api.Limit},
		{"drop table t; " + strings.Repeat("\n", 100000), api.Limit},
		{"delete from t; drop table z;", api.NoTable},
		{"delete from t; " + ofT + ";", api.Exists},
		{"delete from t; update t set b = 1;", api.NoCol},
		{"insert into t values (2); insert into t values ('x');", api.Type},
		{"insert into t values (2); insert into t values (null);", api.Null},
		{"create table u (a int not null, primary key (a), check (a < 5)); insert into u values (5);", api.Check},
		{"insert into t values (2); insert into t values (1);", api.Dup},
		{"create table u (a int not null, primary key (a), foreign key (a) references t); insert into u values (2);", api.Ref},
		{"insert into t values (2); update t set a = a + 9223372036854775807;", api.Overflow},
	} {
		chunks := []api.Chunk{{Text: x.text}, {Phase: 1, Text: "insert into t values (2);"}}
		same := brings(t, l, chunks, 0, x.e)
		pairsAre(t, same, pairT, mark(3), pairR)
		if left := dump.Left(same, chunks); fmt.Sprint(left) != "[0 1]" {
			t.Errorf("P602: %v is left", left)
		}
		brings(t, same, chunks, 1, api.Wait)
	}
	// texts that may be
	for _, text := range []string{"", "\n \n", strings.Repeat(" ", 100000), "drop table t;" + strings.Repeat("\n", 100000-13), "select * from t;select count(*) from t where a = 1;"} {
		brings(t, l, []api.Chunk{{Text: text}}, 0, api.OK)
	}
}

// What of pairs is no mark must be what tables are stored as.
func TestPairsThatAreNoTables(t *testing.T) {
	chunks := []api.Chunk{{Text: "insert into t values (2);"}}
	for _, l := range [][]api.Pair{
		{{K: "a", V: "1"}},
		{{K: "ct", V: "create table t (a int not null,primary key (a))"}},
		{{K: "cu", V: ofT}},
		{pairR},
		{pairT, {K: pairR.K, V: pairR.V + "\x00"}},
		{pairT, {K: pairR.K + "\x00", V: pairR.V}},
		{pairT, mark(1), pairR, {K: "z"}},
		{pairT, mark(1), {K: "p0001 ", V: "1"}, pairR},
		{{K: "ct", V: "create table t (a int not null, primary key (a), foreign key (a) references u)"}, pairR},
		{{K: "ct", V: "create table t (a int not null, primary key (a), check (a <> 1))"}, pairR},
	} {
		brings(t, l, chunks, 0, api.NotThere)
	}
	l := brings(t, []api.Pair{pairT, pairR}, chunks, 0, api.OK)
	if len(l) != 4 || l[1] != mark(0) {
		t.Errorf("P602: %q", l)
	}
	if l = brings(t, []api.Pair{pairT}, chunks, 0, api.OK); len(l) != 3 {
		t.Errorf("P602: %q", l)
	}
	brings(t, nil, chunks, 0, api.NoTable)
}

// A chunk stands on what others, and other hands, have brought.
func TestApplyOverTables(t *testing.T) {
	d := made(t, "create table u (k text not null, n int, primary key (k))", "insert into u values ('x', 1)", "insert into u values ('', null)")
	chunks := []api.Chunk{{Text: ofT + "; insert into t values (1); alter table u add foreign key (n) references t;"}}
	l := brings(t, db.Store(d), chunks, 0, api.OK)
	end, e := dump.Finish(l, chunks)
	want := made(t, ofT, "insert into t values (1)", "create table u (k text not null, n int, primary key (k), foreign key (n) references t)", "insert into u values ('x', 1)", "insert into u values ('', null)")
	if e != api.OK || !slices.Equal(end, db.Store(want)) {
		t.Errorf("P602: %q, %v", end, e)
	}
	again := dump.Dump(d, 1)
	brings(t, db.Store(d), again, 0, api.Exists)
}
