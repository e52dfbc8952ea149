package coord

import (
	"slices"
	"strings"

	"federation/api"
	"federation/db"
)

// What K begins with, of a mark's pair, that says nothing of tables; and the V of one that a transaction puts there.
const (
	ofMark = "p"
	isIn   = "1"
)

func isMark(p api.Pair) bool { return strings.HasPrefix(p.K, ofMark) }

func isOther(p api.Pair) bool { return !isMark(p) }

// reckoned is t, that has all pairs, with what its statements are told and what they write; or with why they are refused.
func reckoned(t Txn) Txn {
	if isDone(t) {
		return t
	}
	d, is := db.Load(only(t.Pairs, isOther))
	if !is {
		t.E = api.NotThere
		return t
	}
	var l []api.Answer
	for _, s := range t.L {
		var a api.Answer
		if d, a = db.Exec(d, s); a.E != api.OK {
			t.E = a.E
			return t
		}
		l = append(l, a)
	}
	t.Answers, t.Writes = l, written(t, d)
	return t
}

// isDone says whether what t's mark stands for is done already, by another transaction.
func isDone(t Txn) bool {
	return t.Mark != "" && slices.ContainsFunc(t.Pairs, func(p api.Pair) bool { return p.K == t.Mark })
}

// written is what makes of t's pairs those of tables, and the marks, and t's own.
func written(t Txn, d []api.Tab) []api.Write {
	l := Diff(t.Pairs, append(only(t.Pairs, isMark), db.Store(d)...))
	if t.Mark != "" {
		l = append(l, put(api.Pair{K: t.Mark, V: isIn}))
	}
	return byKeys(l, writeKey)
}
