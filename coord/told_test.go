package coord_test

import (
	"fmt"
	"testing"

	"federation/api"
	"federation/coord"
	"federation/shard"
)

// begun are transactions that have locked nothing yet.
func begun(t *testing.T) []coord.Txn {
	t.Helper()
	return []coord.Txn{
		coord.New(1, "", nil),
		coord.New(7, "x", nil),
		coord.New(7, "p0001", read(t, "select * from t; drop table t; create table t (a int not null, primary key (a));")),
	}
}

// mark is the pair that shard at tells in these tests: such pairs are no tables.
func mark(at int) api.Pair { return api.Pair{K: fmt.Sprint("p", at), V: fmt.Sprint(at * at)} }

// Pairs get together, in the order of the shards; the last one's are the last that are waited for.
func TestToldLocked(t *testing.T) {
	for n, splits := range ways {
		for _, x := range begun(t)[:2] {
			want := x
			for at := range n + 1 {
				l := [][]api.Pair{{mark(1)}, {mark(3), mark(4)}, nil, {mark(6)}, {}}[at]
				want.Pairs = append(want.Pairs, l...)
				want.Shard++
				if at == n {
					want.Stage, want.Shard = 1, 0
					if want.Mark != "" {
						want.Writes = writes("x=1")
					}
				}
				x = coord.Told(x, splits, shard.Told{Id: at * 77, Ok: true, Pairs: l})
				same(t, fmt.Sprintf("P1103: Ok at shard %d of %d", at, n+1), x, want)
			}
		}
	}
}

// At whichever shard the lock is not to be had: it is given up.
func TestToldNotLocked(t *testing.T) {
	for n, splits := range ways {
		for _, x := range begun(t) {
			for at := range n + 1 {
				want := x
				want.Stage, want.Shard, want.E = 1, 0, api.Conflict
				for _, id := range []int{0, x.No*100 + at, 5} {
					same(t, fmt.Sprintf("P1103: not Ok at shard %d of %d", at, n+1), coord.Told(x, splits, shard.Told{Id: id}), want)
				}
				x = coord.Told(x, splits, has(mark(at)))
			}
		}
	}
}

// toDecide are transactions of which it is to be decided: such as go well, that are refused, that found no lock.
func toDecide(t *testing.T, splits []string) []coord.Txn {
	t.Helper()
	text := "create table t (a int not null, primary key (a)); insert into t values (5);"
	var l []coord.Txn
	for _, s := range []string{"", text, text + "insert into t values (5);", "drop table t;"} {
		for _, m := range []string{"", "p7"} {
			x := coord.New(7, m, read(t, s))
			for at := range len(splits) + 1 {
				x = coord.Told(x, splits, has(mark(at)))
			}
			l = append(l, x, told(coord.New(7, m, read(t, s)), splits, shard.Told{}))
		}
	}
	return append(l, coord.Recover(7))
}

// What is decided is decided, Ok or not, whatever was asked for.
func TestToldDecided(t *testing.T) {
	for n, splits := range ways {
		errors := map[api.Errno]int{}
		for _, x := range toDecide(t, splits) {
			errors[x.E]++
			for _, a := range []shard.Told{made(7, true), made(7, true, writes("a=1 b p1=")...), made(7, false), {}} {
				want := x
				want.Stage, want.Shard, want.Made = 2, 0, a.Made
				switch {
				case a.Made.Commit && x.Mend:
					want.E = api.OK
				case !a.Made.Commit && x.E == api.OK:
					want.E, want.Answers = api.Conflict, nil
				}
				for _, a.Ok = range []bool{true, false} {
					for _, a.Id = range []int{0, 710, 760, 3} {
						same(t, fmt.Sprintf("P1103: %s decided over %d shards", saidMade(a.Made), n+1), coord.Told(x, splits, a), want)
					}
				}
			}
		}
		if len(errors) != 4 || errors[api.OK] < 4 || errors[api.Dup] != 2 || errors[api.NoTable] != 2 {
			t.Fatalf("errors %v", errors)
		}
	}
}

// Each shard is waited for, Ok or not; behind the last one nothing changes any more.
func TestToldFinished(t *testing.T) {
	for n, splits := range ways {
		for _, x := range toDecide(t, splits) {
			for _, m := range []shard.Told{made(7, true, writes("a=1 b p1=")...), made(7, false)} {
				x := coord.Told(x, splits, m)
				for at := range n + 1 {
					want := x
					want.Shard++
					if at == n {
						want.Shard, want.Over = n, true
					}
					for _, a := range []shard.Told{{}, ok, {Id: 720 + at}, {Id: 9, Ok: true}, m, has(mark(at))} {
						same(t, fmt.Sprintf("P1103: finished at shard %d of %d", at, n+1), coord.Told(x, splits, a), want)
					}
					x = want
				}
				for _, a := range []shard.Told{{}, ok, m, made(7, false), has(mark(0))} {
					same(t, "P1103: told when it is over", coord.Told(x, splits, a), x)
				}
			}
		}
	}
}
