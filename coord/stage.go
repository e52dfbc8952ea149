package coord

import (
	"federation/api"
	"federation/shard"
)

// What a transaction does in each Stage: it locks the shards, one by one, and reckons; it is decided, at one shard; it is
// finished, at all of them.
const (
	locks    = 0
	decides  = 1
	finishes = 2
)

// What an Id has for each of these, so that no two commands of all transactions have one.
const (
	ofTxn   = 100
	ofStage = 10
	ofMend  = 50
)

// wants says whether there is anything left for t to do, at a shard that there is.
func wants(t Txn, splits []string) bool {
	return !t.Over && t.Stage >= locks && t.Stage <= finishes && t.Shard >= 0 && t.Shard <= len(splits)
}

func id(t Txn, at int) int {
	n := t.No*ofTxn + t.Stage*ofStage + at
	if t.Mend {
		// Who recovers it asks for other things than who abandoned it: neither must be told what the other one was.
		n += ofMend
	}
	return n
}

// decided is t, of which m is decided. That need not be what t asked for: somebody else may have asked ahead of it.
func decided(t Txn, m shard.Made) Txn {
	t.Made = m
	if !m.Commit && t.E == api.OK {
		t.E, t.Answers = api.Conflict, nil
	}
	if m.Commit && t.Mend {
		t.E = api.OK
	}
	return t
}
