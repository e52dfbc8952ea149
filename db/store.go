package db

import (
	"iter"
	"strings"

	"federation/api"
	"federation/key"
	"federation/sql"
)

// What K begins with, of a table's pair and of a row's; and what stands between a table's name and a row's key, which is below all that a name may have.
const (
	ofTable = "c"
	ofRow   = "r"
	behind  = "\x00"
)

// pairs goes through those of tables: they rise by K, as tables do by names and rows by keys.
func pairs(d []api.Tab) iter.Seq[api.Pair] {
	return func(yield func(api.Pair) bool) {
		for _, t := range d {
			if !yield(api.Pair{K: ofTable + t.T.Name, V: createText(t.T)}) {
				return
			}
		}
		for _, t := range d {
			for _, row := range t.Rows {
				if !yield(api.Pair{K: ofRow + t.T.Name + behind + key.Key(at(row, t.T.Key)), V: key.Row(row)}) {
					return
				}
			}
		}
	}
}

// gathered are the tables and rows that pairs say, sound or not; false: some pair says none.
func gathered(l []api.Pair) (tables, bool) {
	d := tablesOf(nil)
	if len(l) > api.MaxTables*(1+api.MaxRows) {
		return d, false
	}
	for _, p := range l {
		t, is := said(d, p)
		if !is {
			return d, false
		}
		d = d.with(t)
	}
	return d, true
}

// said is the table that a pair says, or that it says a row of.
func said(d tables, p api.Pair) (api.Tab, bool) {
	if strings.HasPrefix(p.K, ofTable) {
		s, _, e := sql.Parse(p.V)
		return api.Tab{T: s.T}, e == api.OK && s.Kind == api.SCreate
	}
	// Whether K is wholly as it should be is seen when the tables are stored again.
	k, isRow := strings.CutPrefix(p.K, ofRow)
	name, _, _ := strings.Cut(k, behind)
	row, isRead := key.ReadRow(p.V)
	t, isThere := d.get(name)
	t.Rows = rowsOf(t).with(row).list
	return t, isRow && isRead && isThere
}

// sound says whether tables may be as they are.
func sound(d tables) bool {
	if len(d.list) > api.MaxTables {
		return false
	}
	for _, t := range d.list {
		c := change{d, t, t.Rows}
		if !Right(t.T) || linksFault(d, t.T) != api.OK || c.fault() != api.OK {
			return false
		}
	}
	return true
}
