package raft

import (
	"strings"

	"federation/api"
)

// all are so many of v.
func all[T any](size int, v T) []T {
	l := make([]T, size)
	for i := range l {
		l[i] = v
	}
	return l
}

// majority says whether more than half of a group's things, one of each node, are so.
func majority[T any](l []T, is func(T) bool) bool {
	n := 0
	for _, v := range l {
		if is(v) {
			n++
		}
	}
	return n > len(l)/2
}

// fresh are the same entries in memory of their own. Each call copies a whole log, so their Data lies in one text, made
// at once.
func fresh(l []api.Entry) []api.Entry {
	size := 0
	for _, e := range l {
		size += len(e.Data)
	}
	var b strings.Builder
	b.Grow(size)
	for _, e := range l {
		b.WriteString(e.Data)
	}
	rest := b.String()
	out := make([]api.Entry, len(l))
	for i, e := range l {
		n := len(e.Data)
		out[i], rest = api.Entry{Term: e.Term, Data: rest[:n]}, rest[n:]
	}
	return out
}
