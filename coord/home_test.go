package coord_test

import (
	"fmt"
	"slices"
	"strings"
	"testing"

	"federation/api"
	"federation/cmd"
	"federation/coord"
	"federation/shard"
)

func TestHome(t *testing.T) {
	for _, x := range []struct {
		splits []string
		homes  map[string]int
	}{
		{nil, map[string]int{"": 0, "a": 0, "\xff": 0}},
		{[]string{}, map[string]int{"": 0, "\x00": 0}},
		{[]string{""}, map[string]int{"": 1, "\x00": 1, "z": 1}},
		{[]string{"m"}, map[string]int{"": 0, "l": 0, "l\xff": 0, "m": 1, "m\x00": 1, "n": 1, "M": 0}},
		{[]string{"", "b"}, map[string]int{"": 1, "a": 1, "b": 2, "ba": 2}},
		{[]string{"b", "bb"}, map[string]int{"": 0, "a": 0, "b": 1, "ba": 1, "bb": 2, "bba": 2, "c": 2}},
		{[]string{"ct", "p", "rt\x00"}, map[string]int{"cs": 0, "ct": 1, "ct2": 1, "ozz": 1, "p": 2, "p0001": 2, "rt": 2, "rt\x00": 3, "rt\x00\x02": 3, "ru": 3}},
		{[]string{"a", "b", "c", "d"}, map[string]int{"": 0, "A": 0, "a": 1, "az": 1, "b": 2, "bz": 2, "c": 3, "cz": 3, "d": 4, "e": 4, "\xff\xff": 4}},
		{[]string{"a\x00", "a\x00\x00", "a\x7f", "a\x80"}, map[string]int{"a": 0, "a\x00": 1, "a\x00\x00": 2, "a\x00\x01": 2, "aa": 2, "a\x7e": 2, "a\x7f": 3, "a\x80": 4, "é": 4}},
	} {
		for k, want := range x.homes {
			if got := coord.Home(x.splits, k); got != want {
				t.Errorf("P1101: Home of %q in %q: %d, not %d", k, x.splits, got, want)
			}
		}
	}
}

// Of each choice of at most four splits out of some, each key is at home where the splits that are above it begin.
func TestHomeOfAll(t *testing.T) {
	texts := []string{"", "\x00", "a", "a\x00", "ab", "b", "p", "p0001", "r", "\xff"}
	for set := range 1 << len(texts) {
		var splits []string
		for i, s := range texts {
			if set>>i&1 == 1 {
				splits = append(splits, s)
			}
		}
		if len(splits) > 4 {
			continue
		}
		for _, s := range texts {
			for _, k := range []string{s, s + "\x00", s + "z", s + "\xff"} {
				want := slices.IndexFunc(splits, func(s string) bool { return s > k })
				if want < 0 {
					want = len(splits)
				}
				if got := coord.Home(splits, k); got != want {
					t.Fatalf("P1101: Home of %q in %q: %d, not %d", k, splits, got, want)
				}
			}
		}
	}
}

// becomes are pairs when writes are done to them, one by one, as a shard does them.
func becomes(t *testing.T, l []api.Pair, w []api.Write) []api.Pair {
	t.Helper()
	data, is := cmd.Encode(finish(1, 1, true, w...), 1)
	if !is {
		t.Fatalf("P1101: no command may have %s", saidWrites(w))
	}
	return shard.Apply(shard.State{Pairs: l, Lock: 1}, 1, data).Pairs
}

// byFate are two lists of pairs, and what makes one of the other: each key's values are one of 16 fates.
func byFate(fates []int, keys []string) (a, b []api.Pair, l []api.Write) {
	values := []string{"", "1", "2"}
	for i, k := range keys {
		from, to := fates[i]/4, fates[i]%4
		if from > 0 {
			a = append(a, api.Pair{K: k, V: values[from-1]})
		}
		if to > 0 {
			b = append(b, api.Pair{K: k, V: values[to-1]})
		}
		if to == 0 && from > 0 {
			l = append(l, api.Write{K: k, Gone: true})
		} else if to != from {
			l = append(l, api.Write{K: k, V: values[to-1]})
		}
	}
	return a, b, l
}

func holdsDiff(t *testing.T, fates []int, keys []string) {
	t.Helper()
	a, b, want := byFate(fates, keys)
	got := coord.Diff(a, b)
	if saidWrites(got) != saidWrites(want) {
		t.Fatalf("P1101: Diff of %q and %q: %s, not %s", a, b, saidWrites(got), saidWrites(want))
	}
	if end := becomes(t, a, got); fmt.Sprintf("%q", end) != fmt.Sprintf("%q", b) {
		t.Fatalf("P1101: Diff of %q and %q: %s makes %q", a, b, saidWrites(got), end)
	}
}

// All pairs of lists of up to four keys of their own, each there or not, with one value or another.
func TestDiffOfAll(t *testing.T) {
	keys := []string{"a", "a\x00", "aa", "b"}
	for n := range 1 << 16 {
		holdsDiff(t, []int{n & 15, n >> 4 & 15, n >> 8 & 15, n >> 12}, keys)
	}
}

func TestDiffOfMany(t *testing.T) {
	d := &die{3}
	for range 200 {
		var keys []string
		for range d.of(60) {
			keys = append(keys, one(d, "c", "p", "r", "\x00", "\xff")+strings.Repeat(one(d, "a", "\x00", "z", "\xc3"), d.of(5)))
		}
		slices.Sort(keys)
		keys = slices.Compact(keys)
		fates := make([]int, len(keys))
		for i := range fates {
			fates[i] = one(d, 0, 4, 5, 5, d.of(16))
		}
		holdsDiff(t, fates, keys)
	}
}

// The empty key is below all others, though no command has it.
func TestDiffOfNoKey(t *testing.T) {
	none := []api.Pair{{V: "1"}}
	for _, x := range []struct {
		a, b []api.Pair
		want []api.Write
	}{
		{nil, nil, nil},
		{nil, none, []api.Write{{V: "1"}}},
		{none, nil, []api.Write{{Gone: true}}},
		{none, none, nil},
		{none, []api.Pair{{V: "2"}}, []api.Write{{V: "2"}}},
		{none, pairs("a=1"), []api.Write{{Gone: true}, {K: "a", V: "1"}}},
		{[]api.Pair{}, []api.Pair{}, nil},
	} {
		if got := coord.Diff(x.a, x.b); saidWrites(got) != saidWrites(x.want) {
			t.Errorf("P1101: Diff of %q and %q: %s, not %s", x.a, x.b, saidWrites(got), saidWrites(x.want))
		}
	}
}

const top = 1<<63 - 1

func TestNew(t *testing.T) {
	l := read(t, both+"update t set a = a + 1 where b = 'x'; select * from u; drop table u; alter table t add foreign key (a) references t;")
	for _, no := range []int{1, 2, 999, 1 << 40, top} {
		for _, mark := range []string{"", "p", "p0001", "x", "any text\x00\xff"} {
			for size := range len(l) + 1 {
				same(t, "P1101: New", coord.New(no, mark, l[:size]), coord.Txn{No: no, Mark: mark, L: l[:size]})
			}
		}
		same(t, "P1101: Recover", coord.Recover(no), coord.Txn{No: no, Mend: true, Stage: 1, E: api.Conflict})
	}
}
