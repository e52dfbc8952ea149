package shard_test

import (
	"maps"
	"slices"
	"testing"

	"federation/api"
	"federation/cmd"
	"federation/shard"
)

// came is a command that was not there before, whether it was let do something, and what it was told.
type came struct {
	api.Cmd
	does bool
	told shard.Told
}

// law is the chapter once more, its words one by one. It keeps no state: what has come is all, and each thing is found in
// it anew.
type law []came

// read is the law of a log; stopped: it has something that a node of that form can't read.
func read(form int, data []string) (l law, stopped bool) {
	for _, s := range data {
		c, of, is := cmd.Decode(s)
		if !is || of > form {
			return l, true
		}
		if slices.ContainsFunc(l, func(x came) bool { return x.Id == c.Id }) {
			continue
		}
		x := came{Cmd: c, does: of == 1 || l.gate(), told: shard.Told{Id: c.Id}}
		if x.does {
			l.tell(&x)
		}
		l = append(l, x)
	}
	return l, false
}

// tell says what x is told, which is not among what came yet.
func (l law) tell(x *came) {
	_, made := l.made(x.Txn)
	lock := l.lock()
	switch x.Kind {
	case api.CNone, api.CGate, api.CNote:
		x.told.Ok = true
	case api.CLock:
		if x.Txn > 0 && !made && (lock == 0 || lock == x.Txn) {
			x.told.Ok, x.told.Pairs = true, l.pairs()
		}
	case api.CDecide:
		x.told.Ok = true
		x.told.Made, _ = append(slices.Clip(l), *x).made(x.Txn)
	case api.CFinish:
		x.told.Ok = lock == x.Txn
	}
}

func (l law) gate() bool {
	return slices.ContainsFunc(l, func(x came) bool { return x.does && x.Kind == api.CGate })
}

// lock is whose the last lock is that was given, unless it was let go of since.
func (l law) lock() int {
	for _, x := range slices.Backward(l) {
		if x.told.Ok && x.Kind == api.CLock {
			return x.Txn
		}
		if x.told.Ok && x.Kind == api.CFinish {
			return 0
		}
	}
	return 0
}

// made is what the first command says that decides of a transaction.
func (l law) made(txn int) (shard.Made, bool) {
	for _, x := range l {
		if !x.does || x.Txn != txn || x.Kind != api.CDecide && x.Kind != api.CFinish {
			continue
		}
		if x.Kind == api.CDecide && x.Commit {
			return shard.Made{Txn: txn, Commit: true, Writes: x.Writes}, true
		}
		return shard.Made{Txn: txn, Commit: x.Commit}, true
	}
	return shard.Made{}, false
}

func (l law) pairs() []api.Pair {
	at := map[string]string{}
	for _, x := range l {
		if x.Kind != api.CFinish || !x.told.Ok || !x.Commit {
			continue
		}
		for _, w := range x.Writes {
			if delete(at, w.K); !w.Gone {
				at[w.K] = w.V
			}
		}
	}
	var out []api.Pair
	for _, k := range slices.Sorted(maps.Keys(at)) {
		out = append(out, api.Pair{K: k, V: at[k]})
	}
	return out
}

// state is all that the law says.
func (l law) state(stopped bool) shard.State {
	s := shard.State{Pairs: l.pairs(), Lock: l.lock(), Gate: l.gate(), Stopped: stopped}
	seen := map[int]bool{}
	for _, x := range l {
		s.Told = append(s.Told, x.told)
		if m, is := l.made(x.Txn); is && x.does && !seen[x.Txn] && (x.Kind == api.CDecide || x.Kind == api.CFinish) {
			s.Made = append(s.Made, m)
			seen[x.Txn] = true
		}
		if x.does && x.Kind == api.CNote {
			s.Notes = append(s.Notes, x.Text)
		}
	}
	return s
}

// lawful holds that Replay of a log is as the law says, and answers what that is.
func lawful(t *testing.T, form int, data []string) shard.State {
	t.Helper()
	l, stopped := read(form, data)
	s := l.state(stopped)
	if got := shard.Replay(form, data); said(got) != said(s) {
		t.Fatalf("P1001: Replay at a node of form %d of %q:\n%s\nnot\n%s", form, data, said(got), said(s))
	}
	return s
}

func TestLaw(t *testing.T) {
	t.Parallel()
	d := &die{53}
	var gates, stops, notes, commits, refused int
	for range 3000 {
		data := d.log(t, d.of(60))
		for form := 1; form <= 2; form++ {
			s := lawful(t, form, data)
			gates += number(s.Gate)
			stops += number(s.Stopped)
			notes += len(s.Notes)
			for _, told := range s.Told {
				commits += number(told.Ok && told.Made.Commit)
				refused += number(!told.Ok)
			}
		}
	}
	if min(gates, stops, notes, commits, refused) < 1000 {
		t.Errorf("little comes about: %d gates, %d stops, %d notes, %d commits, %d refused", gates, stops, notes, commits, refused)
	}
}

func number(is bool) int {
	if is {
		return 1
	}
	return 0
}

// words are commands of an Id, as bytes, that meet one another in all ways.
func words(t *testing.T, id int) []string {
	t.Helper()
	l := []api.Write{put("b", "2"), put("a", "1")}
	return append(log(t,
		lock(id, 0), lock(id, 1), lock(id, 2),
		decide(id, 1, commit, l...), decide(id, 1, not, l...), decide(id, 2, commit),
		finish(id, 0, commit, put("a", "0")), finish(id, 1, commit, l...), finish(id, 1, not, l...), finish(id, 2, commit, gone("a"), put("c", "")),
		gate(id), note(id, "n")),
		bytes(t, lock(id, 1), 2), bytes(t, decide(id, 2, not), 2), bytes(t, gate(id), 2), "?")
}

// All logs of up to four such commands, each with an Id of its own; and what then comes with the Id of the first.
func TestLawOfAllShortLogs(t *testing.T) {
	t.Parallel()
	var by [][]string
	for id := range 4 {
		by = append(by, words(t, id))
	}
	var grow func(t *testing.T, form int, data []string)
	grow = func(t *testing.T, form int, data []string) {
		lawful(t, form, data)
		if len(data) == 3 {
			for _, again := range by[0] {
				lawful(t, form, append(slices.Clip(data), again))
			}
		}
		if len(data) == len(by) || len(data) > 0 && data[len(data)-1] == "?" {
			return
		}
		for _, word := range by[len(data)] {
			grow(t, form, append(slices.Clip(data), word))
		}
	}
	for form := 1; form <= 2; form++ {
		t.Run(string(rune('0'+form)), func(t *testing.T) {
			t.Parallel()
			grow(t, form, nil)
		})
	}
}
