package shard_test

import (
	"fmt"
	"maps"
	"slices"
	"strings"
	"testing"

	"federation/api"
	"federation/shard"
)

// finished is what a finish with those writes leaves of pairs.
func finished(t *testing.T, from []api.Pair, l ...api.Write) []api.Pair {
	t.Helper()
	s := shard.Apply(shard.State{Pairs: from, Lock: 1}, 1, bytes(t, finish(7, 1, commit, l...), 1))
	if len(s.Told) != 1 || !s.Told[0].Ok {
		t.Fatalf("P1001: %v is not done: %s", l, said(s))
	}
	return s.Pairs
}

// Each write finds what those ahead of it left.
func TestWritesOneByOne(t *testing.T) {
	for _, x := range []struct {
		from, want string
		l          []api.Write
	}{
		{"", "", nil},
		{"", "a=1", []api.Write{put("a", "1")}},
		{"", "", []api.Write{gone("a")}},
		{"", "a=1 b=2 c=3", []api.Write{put("c", "3"), put("a", "1"), put("b", "2")}},
		{"", "a=2", []api.Write{put("a", "1"), put("a", "2")}},
		{"", "", []api.Write{put("a", "1"), gone("a")}},
		{"", "a=1", []api.Write{gone("a"), put("a", "1")}},
		{"", "a=3", []api.Write{put("a", "1"), gone("a"), gone("a"), put("a", "3")}},
		{"a=1", "a=", []api.Write{put("a", "")}},
		{"a=1", "a=1", []api.Write{put("a", "1")}},
		{"a=1", "", []api.Write{gone("a")}},
		{"a=1", "a=1", []api.Write{gone("b")}},
		{"a=1", "a=1", []api.Write{gone("A")}},
		{"a=1", "a=2", []api.Write{gone("a"), put("a", "2")}},
		{"a=1", "", []api.Write{put("a", "2"), gone("a")}},
		{"a=1 b=2 c=3", "b=2 c=3", []api.Write{gone("a")}},
		{"a=1 b=2 c=3", "a=1 c=3", []api.Write{gone("b")}},
		{"a=1 b=2 c=3", "a=1 b=2", []api.Write{gone("c")}},
		{"a=1 b=2 c=3", "", []api.Write{gone("b"), gone("a"), gone("c")}},
		{"a=1 b=2 c=3", "a=1 b=9 c=3", []api.Write{put("b", "9")}},
		{"b=2 d=4", "a=1 b=2 c=3 d=4 e=5", []api.Write{put("e", "5"), put("c", "3"), put("a", "1")}},
		{"b=2 d=4", "a=1 c=3 d=8", []api.Write{put("a", "1"), put("d", "7"), gone("b"), put("c", "3"), put("d", "8")}},
	} {
		if got := finished(t, pairs(x.from), x.l...); saidPairs(got) != saidPairs(pairs(x.want)) {
			t.Errorf("P1001: %v done to %s: %s, not %s", x.l, x.from, saidPairs(got), x.want)
		}
	}
}

// Pairs are by K as bytes, in whatever order they were written.
func TestPairsByKey(t *testing.T) {
	keys := []string{"\x00", "\x00\x00", "\x00\xff", "0", "A", "a", "a\x00", "a\x00\x00", "aa", "ab", "b", "é", "\x80", "\xff", "\xff\x00", strings.Repeat("\xff", 300)}
	slices.Sort(keys)
	d := &die{5}
	for range 50 {
		var l []api.Write
		for range keys {
			l = append(l, put(one(d, keys...), fmt.Sprint(d.of(9))))
		}
		want := map[string]string{}
		for _, w := range l {
			want[w.K] = w.V
		}
		got := finished(t, nil, l...)
		if !slices.Equal(slices.Sorted(maps.Keys(want)), keysOf(got)) {
			t.Fatalf("P1001: %v: %s", l, saidPairs(got))
		}
		for _, p := range got {
			if p.V != want[p.K] {
				t.Fatalf("P1001: %v: %s", l, saidPairs(got))
			}
		}
	}
}

func keysOf(l []api.Pair) []string {
	var out []string
	for _, p := range l {
		out = append(out, p.K)
	}
	return out
}

// As many and as large ones as a command may have.
func TestLargestWrites(t *testing.T) {
	var l []api.Write
	for i := range 1000 {
		l = append(l, put(fmt.Sprintf("%0300d", 999-i), strings.Repeat("v", 4000)))
	}
	from := pairs("1=1 2=2")
	got := finished(t, from, l...)
	if len(got) != 1002 || !slices.IsSorted(keysOf(got)) || saidPairs(got[1000:]) != saidPairs(from) {
		t.Fatalf("P1001: %d pairs", len(got))
	}
	for i, p := range got[:1000] {
		if p.K != l[999-i].K || p.V != l[999-i].V {
			t.Fatalf("P1001: pair %d: %.300q", i, p)
		}
	}
	for i := range l {
		l[i] = gone(l[i].K)
	}
	if got := finished(t, got, l...); saidPairs(got) != saidPairs(from) {
		t.Errorf("P1001: %s is left", saidPairs(got))
	}
}
