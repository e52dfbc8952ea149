package db

import (
	"iter"
	"slices"

	"federation/api"
	"federation/eval"
	"federation/val"
)

// change is tables, with t as it is to be among them, whose rows of news were not there before.
type change struct {
	d    tables
	t    api.Tab
	news [][]api.Value
}

// changed is d with other rows in t, and that n are concerned; or why they may not be.
func changed(d tables, t api.Tab, rows, news [][]api.Value, n int) (tables, api.Answer) {
	t.Rows = rows
	t.Rows = rowsOf(t).sorted().list
	c := change{d.with(t), t, news}
	if e := c.fault(); e != api.OK {
		return refused(d, e)
	}
	return c.d, api.Answer{N: n}
}

// fault is the first one, in the order in which the document names them. Rows that were there before can by themselves have none.
func (c change) fault() api.Errno {
	for _, fault := range []func() api.Errno{c.types, c.nulls, c.size, c.checks, c.dups, c.refs} {
		if e := fault(); e != api.OK {
			return e
		}
	}
	return api.OK
}

func (c change) types() api.Errno {
	for _, row := range c.news {
		if len(row) != len(c.t.T.Cols) {
			return api.Type
		}
		for i, v := range row {
			if v.Kind != api.TNull && v.Kind != c.t.T.Cols[i].Type {
				return api.Type
			}
		}
	}
	return api.OK
}

func (c change) nulls() api.Errno {
	for _, row := range c.news {
		for i, v := range row {
			if v.Kind == api.TNull && c.t.T.Cols[i].NotNull {
				return api.Null
			}
		}
	}
	return api.OK
}

func (c change) size() api.Errno {
	if len(c.t.Rows) > api.MaxRows {
		return api.Limit
	}
	return api.OK
}

func (c change) checks() api.Errno {
	for _, row := range c.news {
		is, known, e := eval.Holds(c.t.T, row, c.t.T.Check)
		if e != api.OK {
			return e
		}
		if known && !is {
			return api.Check
		}
	}
	return api.OK
}

func (c change) dups() api.Errno {
	for _, col := range append([]int{c.t.T.Key}, c.t.T.Unique...) {
		l := slices.SortedFunc(known(c.t.Rows, col), val.Order)
		if len(l) > len(slices.CompactFunc(l, sameValue)) {
			return api.Dup
		}
	}
	return api.OK
}

func sameValue(a, b api.Value) bool { return val.Order(a, b) == 0 }

// known goes through the values of a column that are not null.
func known(rows [][]api.Value, col int) iter.Seq[api.Value] {
	return func(yield func(api.Value) bool) {
		for _, row := range rows {
			if v := at(row, col); v.Kind != api.TNull && !yield(v) {
				return
			}
		}
	}
}

func (c change) refs() api.Errno {
	name := c.t.T.Name
	for from, k := range links(c.d) {
		if (from.T.Name == name || k.Table == name) && loose(c.d, from, k) {
			return api.Ref
		}
	}
	return api.OK
}
