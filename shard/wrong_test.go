package shard_test

import (
	"fmt"
	"testing"

	"federation/api"
	"federation/shard"
)

// wild are states that nothing tells: pairs that do not rise or are there twice, numbers twice, numbers below 0.
func wild() []shard.State {
	s := some()
	return []shard.State{
		{Pairs: pairs("b=1 a=2 b=3 c=4 a=5")},
		{Pairs: pairs("a=1 a=1 a=1"), Lock: -1},
		{Pairs: []api.Pair{{}, {}}, Lock: -top - 1, Made: []shard.Made{{Txn: -1}, {Txn: -1}}},
		{Made: []shard.Made{{Txn: 5}, {Txn: 5, Commit: true}, {Txn: 5, Writes: []api.Write{{}, {Gone: true, V: "x"}}}}, Lock: 5},
		{Told: []shard.Told{{Id: 7}, {Id: 7, Ok: true}, {Id: -7, Pairs: pairs("z=1 a=1")}, {}, {}}},
		{Told: append(s.Told, s.Told...), Made: append(s.Made, s.Made...), Pairs: append(s.Pairs, s.Pairs...), Lock: 6},
	}
}

// Whatever a call is handed, it ends, and changes nothing of it (P1, P2, P8).
func TestWild(t *testing.T) {
	for _, s := range append(wild(), whole()...) {
		s = roomy(s)
		before := spare(s)
		for _, form := range []int{-top - 1, -1, 0, 1, 2, 3, top} {
			for _, data := range append(unread(t), words(t, 7)...) {
				got := shard.Apply(s, form, data)
				if spare(s) != before {
					t.Fatalf("P2: Apply of %q in form %d changes\n%s\nto\n%s", data, form, before, spare(s))
				}
				apart(t, fmt.Sprintf("Apply of %q in form %d", data, form), s, data, got)
			}
		}
		for _, id := range []int{-top - 1, -7, -1, 0, 7, top} {
			told, _ := shard.Answer(s, id)
			apart(t, fmt.Sprint("Answer of ", id), s, told)
		}
	}
}

// A node of a form that is none reads what no form is above.
func TestFormsThatAreNone(t *testing.T) {
	l := append(log(t, gate(1), lock(2, 1)), bytes(t, note(3, "hi"), 2))
	for _, form := range []int{-top - 1, -1, 0} {
		same(t, fmt.Sprint("a node of form ", form), shard.Replay(form, l), shard.State{Stopped: true})
	}
	for _, form := range []int{3, top} {
		same(t, fmt.Sprint("a node of form ", form), shard.Replay(form, l), shard.Replay(2, l))
	}
}
