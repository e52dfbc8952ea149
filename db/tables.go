package db

import (
	"iter"
	"slices"

	"federation/api"
)

func created(d tables, t api.Table) (tables, api.Answer) {
	if _, is := d.get(t.Name); is {
		return refused(d, api.Exists)
	}
	if len(d.list) >= api.MaxTables {
		return refused(d, api.Limit)
	}
	if !Right(t) {
		return refused(d, api.Type)
	}
	next := d.with(api.Tab{T: t})
	if e := linksFault(next, t); e != api.OK {
		return refused(d, e)
	}
	return next, api.Answer{}
}

func dropped(d tables, t api.Tab) (tables, api.Answer) {
	for from, k := range links(d) {
		if k.Table == t.T.Name && from.T.Name != t.T.Name {
			return refused(d, api.Ref)
		}
	}
	return d.without(t.T.Name), api.Answer{}
}

func linked(d tables, t api.Tab, s api.Stmt) (tables, api.Answer) {
	if _, is := d.get(s.To); !is {
		return refused(d, api.NoTable)
	}
	k := api.Link{Col: place(t.T, s.Col), Table: s.To}
	if k.Col < 0 {
		return refused(d, api.NoCol)
	}
	if !suits(d, t.T, k) {
		return refused(d, api.Type)
	}
	t.T.Links = append(slices.Clone(t.T.Links), k)
	if !Right(t.T) {
		return refused(d, api.Limit)
	}
	if loose(d, t, k) {
		return refused(d, api.Ref)
	}
	return d.with(t), api.Answer{}
}

// links goes through the links of all tables, each with the table that it leads from.
func links(d tables) iter.Seq2[api.Tab, api.Link] {
	return func(yield func(api.Tab, api.Link) bool) {
		for _, t := range d.list {
			for _, k := range t.T.Links {
				if !yield(t, k) {
					return
				}
			}
		}
	}
}

// linksFault is what is wrong with the links of t: that a table is not there comes ahead of any type.
func linksFault(d tables, t api.Table) api.Errno {
	for _, k := range t.Links {
		if _, is := d.get(k.Table); !is {
			return api.NoTable
		}
	}
	for _, k := range t.Links {
		if !suits(d, t, k) {
			return api.Type
		}
	}
	return api.OK
}

// suits says whether a link's column is of the type of the keys that it leads to.
func suits(d tables, t api.Table, k api.Link) bool {
	to, _ := d.get(k.Table)
	return at(t.Cols, k.Col).Type == at(to.T.Cols, to.T.Key).Type
}

// loose says whether a row of t has, where a link leads from, what is no key there.
func loose(d tables, t api.Tab, k api.Link) bool {
	to, _ := d.get(k.Table)
	keys := rowsOf(to)
	for v := range known(t.Rows, k.Col) {
		if _, is := keys.find(v); !is {
			return true
		}
	}
	return false
}
