package db

import (
	"slices"
	"strings"

	"federation/api"
	"federation/val"
)

// shelf is a list of things that rise by their labels. It stays as it is: what puts one in or takes one out tells another shelf.
type shelf[K, T any] struct {
	list  []T
	label func(T) K
	order func(a, b K) int
}

// tables are by their names.
type tables = shelf[string, api.Tab]

func tablesOf(d []api.Tab) tables {
	return tables{d, func(t api.Tab) string { return t.T.Name }, strings.Compare}
}

// rowsOf are a table's rows, by their keys.
func rowsOf(t api.Tab) shelf[api.Value, []api.Value] {
	return shelf[api.Value, []api.Value]{t.Rows, func(row []api.Value) api.Value { return at(row, t.T.Key) }, val.Order}
}

func (s shelf[K, T]) find(k K) (int, bool) {
	return slices.BinarySearchFunc(s.list, k, func(x T, k K) int { return s.order(s.label(x), k) })
}

func (s shelf[K, T]) get(k K) (x T, is bool) {
	i, is := s.find(k)
	if !is {
		return x, false
	}
	return s.list[i], true
}

// with has x too, in the place of the one of its label, if there is one.
func (s shelf[K, T]) with(x T) shelf[K, T] {
	s = s.without(s.label(x))
	i, _ := s.find(s.label(x))
	s.list = slices.Insert(s.list, i, x)
	return s
}

func (s shelf[K, T]) without(k K) shelf[K, T] {
	i, is := s.find(k)
	s.list = slices.Clone(s.list)
	if is {
		s.list = slices.Delete(s.list, i, i+1)
	}
	return s
}

// sorted makes a shelf's list, that may lie in any order, rise.
func (s shelf[K, T]) sorted() shelf[K, T] {
	s.list = slices.SortedStableFunc(slices.Values(s.list), func(a, b T) int { return s.order(s.label(a), s.label(b)) })
	return s
}

// at is what stands at a place of a list; a zero value, where there is no such place.
func at[T any](l []T, i int) T {
	if i < 0 || i >= len(l) {
		var none T
		return none
	}
	return l[i]
}
