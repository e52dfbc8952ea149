package shard_test

import (
	"fmt"
	"slices"
	"testing"

	"federation/api"
	"federation/shard"
)

// step is a command that comes to a state, what it is told, and what it changes (nil: nothing) beside that.
type step struct {
	c       api.Cmd
	told    shard.Told
	changes func(s *shard.State)
}

// some is a state in which most things are: transactions 3 and 4 are decided, 5 has the lock.
func some() shard.State {
	return shard.State{
		Pairs: pairs("a=1 b=2 c="),
		Lock:  5,
		Made: []shard.Made{
			{Txn: 3, Commit: true, Writes: []api.Write{put("a", "1"), gone("x")}},
			{Txn: 4},
		},
		Told:  []shard.Told{{Id: 1, Ok: true}, {Id: 2}},
		Notes: []string{"one", ""},
	}
}

// holds does each step to a state by itself: in form 1 at nodes of both forms, and, behind the gate, in form 2 too.
func holds(t *testing.T, s shard.State, l []step) {
	t.Helper()
	for _, x := range l {
		for _, way := range []struct {
			node, form int
			gate       bool
		}{{1, 1, false}, {2, 1, false}, {1, 1, true}, {2, 1, true}, {2, 2, true}} {
			if x.c.Kind == api.CNote && way.form == 1 {
				continue
			}
			s.Gate = way.gate
			want := s
			want.Told = append(slices.Clip(s.Told), x.told)
			if x.changes != nil {
				x.changes(&want)
			}
			what := fmt.Sprintf("%v, form %d at a node of form %d, gate %v, lock %d", x.c, way.form, way.node, way.gate, s.Lock)
			same(t, what, shard.Apply(s, way.node, bytes(t, x.c, way.form)), want)
		}
	}
}

func locked(txn int) func(*shard.State) {
	return func(s *shard.State) { s.Lock = txn }
}

func decided(m shard.Made) func(*shard.State) {
	return func(s *shard.State) { s.Made = append(slices.Clip(s.Made), m) }
}

func both(l ...func(*shard.State)) func(*shard.State) {
	return func(s *shard.State) {
		for _, f := range l {
			f(s)
		}
	}
}

func hasPairs(text string) func(*shard.State) {
	return func(s *shard.State) { s.Pairs = pairs(text) }
}

// Transactions' numbers that are far up count as any other.
const top = 1<<63 - 1

func TestNothing(t *testing.T) {
	holds(t, shard.State{}, []step{{nothing(0), shard.Told{Ok: true}, nil}, {nothing(top), shard.Told{Id: top, Ok: true}, nil}})
	holds(t, some(), []step{
		{nothing(7), shard.Told{Id: 7, Ok: true}, nil},
		{api.Cmd{Id: 7, Txn: 6}, shard.Told{Id: 7, Ok: true}, nil},
		{api.Cmd{Id: 7, Txn: 5}, shard.Told{Id: 7, Ok: true}, nil},
	})
}

// The lock is nobody's.
func TestLockFree(t *testing.T) {
	holds(t, shard.State{}, []step{
		{lock(7, 0), shard.Told{Id: 7}, nil},
		{lock(7, 1), shard.Told{Id: 7, Ok: true}, locked(1)},
		{lock(0, top), shard.Told{Ok: true}, locked(top)},
	})
	s := some()
	s.Lock = 0
	have := shard.Told{Id: 7, Ok: true, Pairs: s.Pairs}
	holds(t, s, []step{
		{lock(7, 0), shard.Told{Id: 7}, nil},
		{lock(7, 3), shard.Told{Id: 7}, nil},
		{lock(7, 4), shard.Told{Id: 7}, nil},
		{lock(7, 5), have, locked(5)},
		{lock(7, 6), have, locked(6)},
		{lock(7, 1), have, locked(1)},
	})
}

// The lock is somebody's: whose it is may have it again, and is told the pairs again.
func TestLockTaken(t *testing.T) {
	s := some()
	holds(t, s, []step{
		{lock(7, 0), shard.Told{Id: 7}, nil},
		{lock(7, 3), shard.Told{Id: 7}, nil},
		{lock(7, 4), shard.Told{Id: 7}, nil},
		{lock(7, 5), shard.Told{Id: 7, Ok: true, Pairs: s.Pairs}, nil},
		{lock(7, 6), shard.Told{Id: 7}, nil},
		{lock(7, 1), shard.Told{Id: 7}, nil},
	})
	s.Made = append(s.Made, shard.Made{Txn: 5, Commit: true})
	holds(t, s, []step{{lock(7, 5), shard.Told{Id: 7}, nil}, {lock(7, 6), shard.Told{Id: 7}, nil}})
	s.Made[2].Commit = false
	holds(t, s, []step{{lock(7, 5), shard.Told{Id: 7}, nil}})
	s.Made = []shard.Made{{}}
	holds(t, s, []step{{lock(7, 0), shard.Told{Id: 7}, nil}, {lock(7, 5), shard.Told{Id: 7, Ok: true, Pairs: s.Pairs}, nil}})
}

// What is decided hangs neither on the lock nor on the pairs.
func TestDecide(t *testing.T) {
	l := []api.Write{put("b", ""), gone("a"), put("a", "9")}
	for _, s := range []shard.State{{}, {Lock: 6}, {Lock: 8}, some()} {
		for _, txn := range []int{0, 5, 6, top} {
			all, none, no := shard.Made{Txn: txn, Commit: true, Writes: l}, shard.Made{Txn: txn, Commit: true}, shard.Made{Txn: txn}
			holds(t, s, []step{
				{decide(7, txn, commit, l...), shard.Told{Id: 7, Ok: true, Made: all}, decided(all)},
				{decide(7, txn, commit), shard.Told{Id: 7, Ok: true, Made: none}, decided(none)},
				{decide(7, txn, not), shard.Told{Id: 7, Ok: true, Made: no}, decided(no)},
				{decide(7, txn, not, l...), shard.Told{Id: 7, Ok: true, Made: no}, decided(no)},
			})
		}
	}
}

// What was decided first stands, and is what is told.
func TestDecideLate(t *testing.T) {
	s := some()
	l := []api.Write{put("b", "8")}
	for _, m := range s.Made {
		told := shard.Told{Id: 7, Ok: true, Made: m}
		holds(t, s, []step{
			{decide(7, m.Txn, commit, l...), told, nil},
			{decide(7, m.Txn, commit), told, nil},
			{decide(7, m.Txn, not, l...), told, nil},
			{decide(7, m.Txn, not), told, nil},
		})
	}
	s = shard.State{Made: []shard.Made{{Txn: 0, Commit: true, Writes: l}}}
	holds(t, s, []step{{decide(7, 0, not), shard.Told{Id: 7, Ok: true, Made: s.Made[0]}, nil}})
}

// The finish of a transaction that has the lock.
func TestFinish(t *testing.T) {
	l := []api.Write{put("b", "7"), gone("a"), put("d", "4")}
	ok := shard.Told{Id: 7, Ok: true}
	yes, no := shard.Made{Txn: 5, Commit: true}, shard.Made{Txn: 5}
	s := some()
	holds(t, s, []step{
		{finish(7, 5, commit, l...), ok, both(decided(yes), locked(0), hasPairs("b=7 c= d=4"))},
		{finish(7, 5, commit), ok, both(decided(yes), locked(0))},
		{finish(7, 5, not, l...), ok, both(decided(no), locked(0))},
		{finish(7, 5, not), ok, both(decided(no), locked(0))},
	})
	// That it was decided otherwise before does not count for what is done.
	for _, m := range []shard.Made{yes, no, {Txn: 5, Commit: true, Writes: []api.Write{put("q", "q")}}} {
		s := some()
		s.Made = append(s.Made, m)
		holds(t, s, []step{
			{finish(7, 5, commit, l...), ok, both(locked(0), hasPairs("b=7 c= d=4"))},
			{finish(7, 5, commit), ok, locked(0)},
			{finish(7, 5, not, l...), ok, locked(0)},
			{finish(7, 5, not), ok, locked(0)},
		})
	}
}

// The finish of one that has not the lock does nothing, but it is decided.
func TestFinishWithoutLock(t *testing.T) {
	l := []api.Write{put("b", "7"), gone("a")}
	no := shard.Told{Id: 7}
	for _, held := range []int{0, 5} {
		s := some()
		s.Lock = held
		holds(t, s, []step{
			{finish(7, 6, commit, l...), no, decided(shard.Made{Txn: 6, Commit: true})},
			{finish(7, 6, commit), no, decided(shard.Made{Txn: 6, Commit: true})},
			{finish(7, 6, not, l...), no, decided(shard.Made{Txn: 6})},
			{finish(7, 3, commit, l...), no, nil},
			{finish(7, 3, not, l...), no, nil},
			{finish(7, 4, commit, l...), no, nil},
			{finish(7, 4, not), no, nil},
		})
	}
	holds(t, some(), []step{{finish(7, 0, commit, l...), no, decided(shard.Made{Commit: true})}})
}

// Transaction 0 has the lock that nobody has: the words make no other of it.
func TestFinishNobody(t *testing.T) {
	s := some()
	s.Lock = 0
	ok := shard.Told{Id: 7, Ok: true}
	holds(t, s, []step{
		{finish(7, 0, commit, put("b", "7")), ok, both(decided(shard.Made{Commit: true}), hasPairs("a=1 b=7 c="))},
		{finish(7, 0, not, put("b", "7")), ok, decided(shard.Made{})},
	})
	s.Made = append(s.Made, shard.Made{})
	holds(t, s, []step{{finish(7, 0, commit, put("b", "7")), ok, hasPairs("a=1 b=7 c=")}})
}

func TestGateOpens(t *testing.T) {
	open := func(s *shard.State) { s.Gate = true }
	for _, s := range []shard.State{{}, some()} {
		holds(t, s, []step{
			{gate(7), shard.Told{Id: 7, Ok: true}, open},
			{api.Cmd{Kind: api.CGate, Id: 7, Txn: 5}, shard.Told{Id: 7, Ok: true}, open},
		})
	}
}

func TestNote(t *testing.T) {
	for _, s := range []shard.State{{}, some()} {
		for _, text := range []string{"", "hi", "\x00\xff\n", "0123456789012345678901234567890123456789"} {
			notes := func(s *shard.State) { s.Notes = append(slices.Clip(s.Notes), text) }
			holds(t, s, []step{{note(7, text), shard.Told{Id: 7, Ok: true}, notes}})
		}
	}
}

// All kinds of commands, with all transactions' numbers that tell something.
func kinds() []api.Cmd {
	l := []api.Write{put("b", "7"), gone("a")}
	out := []api.Cmd{gate(7), note(7, "hi"), note(7, "")}
	for txn := range 8 {
		out = append(out, api.Cmd{Id: 7, Txn: txn}, lock(7, txn),
			decide(7, txn, commit, l...), decide(7, txn, not, l...), finish(7, txn, commit, l...), finish(7, txn, not))
	}
	return out
}

// Form 2 does nothing ahead of the gate but that it is answered: not Ok.
func TestAheadOfGate(t *testing.T) {
	free := some()
	free.Lock = 0
	for _, s := range []shard.State{{}, some(), free} {
		for _, c := range kinds() {
			want := s
			want.Told = append(slices.Clip(s.Told), shard.Told{Id: 7})
			same(t, fmt.Sprint(c, " ahead of the gate"), shard.Apply(s, 2, bytes(t, c, 2)), want)
		}
	}
}

// An Id that is told is answered by what it was told: the command does nothing, whatever it is.
func TestToldOnce(t *testing.T) {
	for _, told := range []shard.Told{{Id: 7, Ok: true}, {Id: 7}, {Id: 7, Ok: true, Pairs: pairs("a=1")}, {Id: 7, Ok: true, Made: shard.Made{Txn: 9}}} {
		for place := range 3 {
			for _, open := range []bool{false, true} {
				s := some()
				s.Gate = open
				s.Told = slices.Insert(s.Told, place, told)
				for _, c := range kinds() {
					if c.Kind != api.CNote {
						same(t, fmt.Sprint(c, " once more"), shard.Apply(s, 1, bytes(t, c, 1)), s)
						same(t, fmt.Sprint(c, " once more"), shard.Apply(s, 2, bytes(t, c, 1)), s)
					}
					same(t, fmt.Sprint(c, " once more, in form 2"), shard.Apply(s, 2, bytes(t, c, 2)), s)
				}
			}
		}
	}
}

// A command that was refused is not done when it comes again, though now it might be.
func TestRefusedOnce(t *testing.T) {
	for _, l := range [][]string{
		{bytes(t, note(1, "hi"), 2), bytes(t, gate(2), 1), bytes(t, note(1, "hi"), 2)},
		{bytes(t, gate(1), 2), bytes(t, gate(2), 1), bytes(t, note(1, "hi"), 2)},
	} {
		same(t, "form 2 ahead of the gate, then again", applied(2, l...), shard.State{Gate: true, Told: []shard.Told{{Id: 1}, {Id: 2, Ok: true}}})
	}
	l := log(t, lock(1, 5), lock(2, 6), finish(3, 5, not), lock(2, 6))
	same(t, "a lock, then again", applied(1, l...), shard.State{
		Made: []shard.Made{{Txn: 5}},
		Told: []shard.Told{{Id: 1, Ok: true}, {Id: 2}, {Id: 3, Ok: true}},
	})
}

// A whole transaction, and one that comes too late.
func TestTransaction(t *testing.T) {
	l := log(t,
		lock(10, 1), decide(20, 1, commit, put("b", "2"), put("a", "1")), lock(30, 2), finish(40, 1, commit, put("b", "2"), put("a", "1")),
		lock(50, 2), decide(60, 2, commit, gone("b")), decide(70, 2, not), finish(80, 2, commit, gone("b")), lock(90, 2), lock(100, 3))
	same(t, "two transactions", applied(1, l...), shard.State{
		Pairs: pairs("a=1"),
		Lock:  3,
		Made: []shard.Made{
			{Txn: 1, Commit: true, Writes: []api.Write{put("b", "2"), put("a", "1")}},
			{Txn: 2, Commit: true, Writes: []api.Write{gone("b")}},
		},
		Told: []shard.Told{
			{Id: 10, Ok: true},
			{Id: 20, Ok: true, Made: shard.Made{Txn: 1, Commit: true, Writes: []api.Write{put("b", "2"), put("a", "1")}}},
			{Id: 30},
			{Id: 40, Ok: true},
			{Id: 50, Ok: true, Pairs: pairs("a=1 b=2")},
			{Id: 60, Ok: true, Made: shard.Made{Txn: 2, Commit: true, Writes: []api.Write{gone("b")}}},
			{Id: 70, Ok: true, Made: shard.Made{Txn: 2, Commit: true, Writes: []api.Write{gone("b")}}},
			{Id: 80, Ok: true},
			{Id: 90},
			{Id: 100, Ok: true, Pairs: pairs("a=1")},
		},
	})
}
