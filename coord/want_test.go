package coord_test

import (
	"testing"

	"federation/api"
	"federation/coord"
	"federation/shard"
)

// A new transaction locks shard by shard.
func TestWantLocks(t *testing.T) {
	for n, splits := range ways {
		for _, no := range []int{1, 7, 999} {
			for _, mark := range []string{"", "p1"} {
				x := coord.New(no, mark, read(t, "drop table t;"))
				for at := range n + 1 {
					wanted(t, x, splits, at, lock(no*100+at, no))
					x = coord.Told(x, splits, ok)
				}
			}
		}
	}
}

// It is asked for at shard 0, as E is: with the writes of all shards, or without.
func TestWantDecides(t *testing.T) {
	for n, splits := range ways {
		locked := make([]shard.Told, n+1)
		for i := range locked {
			locked[i] = ok
		}
		x := told(coord.New(7, "p0001", read(t, "create table t (a int not null, primary key (a));")), splits, locked...)
		all := []api.Write{{K: "ct", V: "create table t (a int not null, primary key (a))"}, {K: "p0001", V: "1"}}
		wanted(t, x, splits, 0, decide(710, 7, true, all...))
		wanted(t, told(coord.New(7, "", nil), splits, locked...), splits, 0, decide(710, 7, true))
		wanted(t, told(coord.New(7, "", read(t, "drop table t;")), splits, locked...), splits, 0, decide(710, 7, false))
		for at := range locked {
			locked[at].Ok = false
			x := told(coord.New(8, "p0001", nil), splits, locked[:at+1]...)
			wanted(t, x, splits, 0, decide(810, 8, false))
			locked[at].Ok = true
		}
		wanted(t, coord.Recover(7), splits, 0, decide(760, 7, false))
	}
}

// Each shard gets what is at home there of what is decided, whoever asked for it.
func TestWantFinishes(t *testing.T) {
	all := writes("a=1 ct=2 ct2 cu p=3 p0001=4 p2 p3= q rs rt rt\x00 rt\x00\x01=5 ru rv=6")
	for n, splits := range ways {
		for _, x := range []struct {
			x  coord.Txn
			id int
		}{{coord.New(7, "", nil), 720}, {coord.New(7, "p", read(t, "drop table t;")), 720}, {coord.Recover(7), 770}} {
			for x.x.Stage == 0 {
				x.x = coord.Told(x.x, splits, ok)
			}
			yes, no := coord.Told(x.x, splits, made(7, true, all...)), coord.Told(x.x, splits, made(7, false))
			bare := coord.Told(x.x, splits, made(7, true))
			left := all
			for at := range n + 1 {
				var here []api.Write
				for len(left) > 0 && (at == n || left[0].K < splits[at]) {
					here, left = append(here, left[0]), left[1:]
				}
				wanted(t, yes, splits, at, finish(x.id+at, 7, true, here...))
				wanted(t, bare, splits, at, finish(x.id+at, 7, true))
				wanted(t, no, splits, at, finish(x.id+at, 7, false))
				yes, no, bare = coord.Told(yes, splits, ok), coord.Told(no, splits, shard.Told{}), coord.Told(bare, splits, ok)
			}
			if len(left) > 0 {
				t.Fatalf("%s is at home nowhere", saidWrites(left))
			}
			unwanted(t, yes, splits)
			unwanted(t, no, splits)
			unwanted(t, bare, splits)
		}
	}
}

// What is not to be done writes nothing, whatever stands beside that.
func TestWantWritesNothing(t *testing.T) {
	for _, x := range []coord.Txn{coord.Recover(7), coord.New(7, "p1", nil)} {
		for x.Stage < 1 {
			x = coord.Told(x, nil, ok)
		}
		_, c, _ := coord.Want(coord.Told(x, nil, made(7, false, writes("a=1 b")...)), nil)
		if c.Commit || len(c.Writes) > 0 {
			t.Errorf("P1102: %s", saidCmd(c))
		}
		x.E = api.Conflict
		if _, c, _ := coord.Want(x, nil); c.Commit || len(c.Writes) > 0 {
			t.Errorf("P1102: %s", saidCmd(c))
		}
	}
}

// Writes that lie in any order keep it, at each shard.
func TestWantKeepsOrder(t *testing.T) {
	all := writes("z=1 a b=2 z p=3 b p a=4")
	x := told(coord.Recover(3), []string{"b", "p"}, made(3, true, all...))
	for at, here := range []string{"a a=4", "b=2 b", "z=1 z p=3 p"} {
		wanted(t, x, []string{"b", "p"}, at, finish(370+at, 3, true, writes(here)...))
		x = coord.Told(x, []string{"b", "p"}, ok)
	}
}

// No two commands of one Id that are not the same: of all transactions, stages and shards, mending or not.
func TestIds(t *testing.T) {
	have := map[int]bool{}
	splits := ways[4]
	for no := 1; no <= 50; no++ {
		for _, x := range []coord.Txn{coord.New(no, "", nil), coord.Recover(no)} {
			for !x.Over {
				_, c, is := coord.Want(x, splits)
				if !is || have[c.Id] || c.Txn != no {
					t.Fatalf("P1102: %v, %s, there before: %v", is, saidCmd(c), have[c.Id])
				}
				have[c.Id] = true
				a := made(no, true)
				a.Id = c.Id
				x = coord.Told(x, splits, a)
			}
		}
	}
	if len(have) != 50*(5+1+5+1+5) {
		t.Errorf("P1102: %d Ids", len(have))
	}
}
