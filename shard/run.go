package shard

import (
	"slices"
	"strings"

	"federation/api"
)

// run is a state to which commands are being done. No two of its lists share memory.
type run struct {
	*State
	made index[Made]
	told index[Told]
}

func newRun(s *State) run {
	return run{
		State: s,
		made:  indexOf(&s.Made, func(m Made) int { return m.Txn }),
		told:  indexOf(&s.Told, func(t Told) int { return t.Id }),
	}
}

// take does a command once, however often it comes.
func (r run) take(c api.Cmd, form int) {
	if r.told.has(c.Id) {
		return
	}
	t := Told{Id: c.Id}
	// As long as the gate is not open nodes of form 1 may stand beside this one: what they can't read must do nothing here.
	if form == 1 || r.Gate {
		r.do(c, &t)
	}
	r.told.add(t)
}

// do does a command, and puts into t what it is told.
func (r run) do(c api.Cmd, t *Told) {
	t.Ok = true
	switch c.Kind {
	case api.CLock:
		t.Pairs, t.Ok = r.lock(c.Txn)
	case api.CDecide:
		t.Made = freshMade(r.decide(c))
	case api.CFinish:
		t.Ok = r.finish(c)
	case api.CGate:
		r.Gate = true
	case api.CNote:
		r.Notes = append(r.Notes, c.Text)
	}
}

// lock gives the lock to a transaction, and tells it the pairs.
func (r run) lock(txn int) ([]api.Pair, bool) {
	if !r.free(txn) {
		return nil, false
	}
	r.Lock = txn
	return freshPairs(r.Pairs), true
}

// free says whether a transaction may have the lock. One of which is decided may be over: nobody would let go of it then.
func (r run) free(txn int) bool {
	return txn > 0 && (r.Lock == 0 || r.Lock == txn) && !r.made.has(txn)
}

func (r run) decide(c api.Cmd) Made {
	m := Made{Txn: c.Txn, Commit: c.Commit}
	if c.Commit {
		m.Writes = c.Writes
	}
	return r.decided(m)
}

// decided is what is decided of m's transaction: m, unless something was decided before (T2).
func (r run) decided(m Made) Made {
	if was, is := r.made.find(m.Txn); is {
		return was
	}
	r.made.add(m)
	return m
}

// finish makes a transaction let go of the lock. That it is decided is noted even if it has not the lock: one that comes
// to lock only then is late.
func (r run) finish(c api.Cmd) bool {
	r.decided(Made{Txn: c.Txn, Commit: c.Commit})
	if r.Lock != c.Txn {
		return false
	}
	if c.Commit {
		for _, w := range c.Writes {
			r.write(w)
		}
	}
	r.Lock = 0
	return true
}

func (r run) write(w api.Write) {
	at, is := slices.BinarySearchFunc(r.Pairs, w.K, func(p api.Pair, k string) int { return strings.Compare(p.K, k) })
	if is {
		r.Pairs = slices.Delete(r.Pairs, at, at+1)
	}
	if !w.Gone {
		r.Pairs = slices.Insert(r.Pairs, at, api.Pair{K: w.K, V: w.V})
	}
}
