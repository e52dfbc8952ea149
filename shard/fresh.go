package shard

import (
	"iter"
	"slices"
	"strings"

	"federation/api"
)

// What is answered shares no memory with what was handed in, and no list with another: all of it is copied, texts too.

func fresh(s State) State {
	s.Pairs = freshPairs(s.Pairs)
	s.Made = slices.Clone(s.Made)
	for i, m := range s.Made {
		s.Made[i] = freshMade(m)
	}
	s.Told = slices.Clone(s.Told)
	for i, t := range s.Told {
		s.Told[i] = freshTold(t)
	}
	s.Notes = packed(s.Notes, func(n *string) *string { return n })
	return s
}

func freshTold(t Told) Told {
	t.Pairs = freshPairs(t.Pairs)
	t.Made = freshMade(t.Made)
	return t
}

func freshMade(m Made) Made {
	m.Writes = packed(m.Writes, func(w *api.Write) *string { return &w.K }, func(w *api.Write) *string { return &w.V })
	return m
}

func freshPairs(l []api.Pair) []api.Pair {
	return packed(l, func(p *api.Pair) *string { return &p.K }, func(p *api.Pair) *string { return &p.V })
}

// packed is a list in memory of its own. Each lock tells all pairs, so a state may have very many texts: those of a list
// lie in one, made at once.
func packed[T any](l []T, fields ...func(*T) *string) []T {
	if len(l) == 0 {
		return nil
	}
	l = slices.Clone(l)
	size := 0
	for s := range texts(l, fields) {
		size += len(*s)
	}
	var b strings.Builder
	b.Grow(size)
	for s := range texts(l, fields) {
		b.WriteString(*s)
	}
	rest := b.String()
	for s := range texts(l, fields) {
		n := len(*s)
		*s, rest = rest[:n], rest[n:]
	}
	return l
}

// texts goes through the places of a list's texts, which are fields of its things.
func texts[T any](l []T, fields []func(*T) *string) iter.Seq[*string] {
	return func(yield func(*string) bool) {
		for i := range l {
			for _, field := range fields {
				if !yield(field(&l[i])) {
					return
				}
			}
		}
	}
}
