package db_test

import (
	"fmt"
	"reflect"
	"slices"
	"strings"

	"federation/api"
	"federation/eval"
	"federation/sql"
	"federation/val"
)

// What the chapter says, said once more: without order, sorting or searching, each thing held against each.

// plain makes nothing of the difference between no list and an empty one.
func plain(t api.Table) api.Table {
	t.Cols, t.Unique, t.Links = append([]api.Col{}, t.Cols...), append([]int{}, t.Unique...), append([]api.Link{}, t.Links...)
	t.Check = plainExpr(t.Check)
	return t
}

func plainExpr(x api.Expr) api.Expr {
	l := []api.Expr{}
	for _, c := range x.L {
		l = append(l, plainExpr(c))
	}
	x.L = l
	return x
}

const keyWords = " create table drop alter add foreign key references primary unique check not null insert into values update set where delete from select count true false and or is bool int dec text bytes "

func lawName(s string) bool {
	for i := range len(s) {
		small, other := s[i] >= 'a' && s[i] <= 'z', s[i] >= '0' && s[i] <= '9' || s[i] == '_'
		if !small && (i == 0 || !other) {
			return false
		}
	}
	return len(s) >= 1 && len(s) <= 12 && !strings.Contains(keyWords, " "+s+" ")
}

// lawRight is P501.
func lawRight(t api.Table) bool {
	isPlace := func(i int) bool { return i >= 0 && i < len(t.Cols) }
	if !lawName(t.Name) || len(t.Cols) < 1 || len(t.Cols) > 6 || !isPlace(t.Key) || !t.Cols[t.Key].NotNull || len(t.Unique) > 6 || len(t.Links) > 6 {
		return false
	}
	for i, c := range t.Cols {
		if !lawName(c.Name) || c.Type < api.TBool || c.Type > api.TBytes {
			return false
		}
		for _, other := range t.Cols[:i] {
			if other.Name == c.Name {
				return false
			}
		}
	}
	for i, u := range t.Unique {
		if !isPlace(u) || slices.Contains(t.Unique[:i], u) {
			return false
		}
	}
	for _, k := range t.Links {
		if !isPlace(k.Col) || !lawName(k.Table) {
			return false
		}
	}
	s, _, e := sql.Parse(sql.Text(api.Stmt{Kind: api.SCreate, T: t}))
	if e != api.OK || !reflect.DeepEqual(plain(s.T), plain(t)) {
		return false
	}
	kind, e := eval.Type(t, t.Check)
	return t.Check.Kind == api.XNone || e == api.OK && (kind == api.TBool || kind == api.TNull)
}

// lawFind is the table of a name.
func lawFind(d []api.Tab, name string) (api.Tab, bool) {
	for _, t := range d {
		if t.T.Name == name {
			return t, true
		}
	}
	return api.Tab{}, false
}

func isNull(v api.Value) bool { return v.Kind == api.TNull }

// The faults of rows, each for itself.

func lawTypes(t api.Tab) bool {
	for _, row := range t.Rows {
		if len(row) != len(t.T.Cols) {
			return true
		}
		for i, v := range row {
			if !isNull(v) && v.Kind != t.T.Cols[i].Type {
				return true
			}
		}
	}
	return false
}

func lawNulls(t api.Tab) bool {
	for _, row := range t.Rows {
		for i, v := range row {
			if isNull(v) && (t.T.Cols[i].NotNull || i == t.T.Key) {
				return true
			}
		}
	}
	return false
}

func lawChecks(t api.Tab) api.Errno {
	for _, row := range t.Rows {
		is, known, e := eval.Holds(t.T, row, t.T.Check)
		if e != api.OK {
			return e
		}
		if known && !is {
			return api.Check
		}
	}
	return api.OK
}

func lawTwice(t api.Tab) bool {
	for i, a := range t.Rows {
		for _, b := range t.Rows[:i] {
			for _, c := range append([]int{t.T.Key}, t.T.Unique...) {
				if !isNull(a[c]) && a[c] == b[c] {
					return true
				}
			}
		}
	}
	return false
}

// lawRefs says whether some row of some table has a value that is no key where it leads.
func lawRefs(d []api.Tab) bool {
	for _, t := range d {
		for _, k := range t.T.Links {
			to, _ := lawFind(d, k.Table)
			for _, row := range t.Rows {
				found := isNull(row[k.Col])
				for _, other := range to.Rows {
					found = found || other[to.T.Key] == row[k.Col]
				}
				if !found {
					return true
				}
			}
		}
	}
	return false
}

// unsound tells why tables are not sound; nothing, if they are.
func unsound(d []api.Tab) string {
	if len(d) > 8 {
		return "too many tables"
	}
	for i, t := range d {
		name := t.T.Name
		switch {
		case i > 0 && d[i-1].T.Name >= name:
			return "tables are not by names"
		case !lawRight(t.T):
			return name + " is not Right"
		case len(t.Rows) > 60:
			return name + " has too many rows"
		case lawTypes(t) || lawNulls(t) || lawChecks(t) != api.OK || lawTwice(t):
			return fmt.Sprint(name, ": ", lawTypes(t), " ", lawNulls(t), " ", lawChecks(t), " ", lawTwice(t))
		}
		for i, row := range t.Rows {
			if i > 0 && val.Order(t.Rows[i-1][t.T.Key], row[t.T.Key]) >= 0 {
				return name + "'s rows are not by keys"
			}
			if slices.ContainsFunc(row, func(v api.Value) bool { return !val.Right(v) }) {
				return name + " has a value that is not Right"
			}
		}
		for _, k := range t.T.Links {
			to, is := lawFind(d, k.Table)
			if !is || to.T.Cols[to.T.Key].Type != t.T.Cols[k.Col].Type {
				return name + " has a link that may not be"
			}
		}
	}
	if lawRefs(d) {
		return "a row's value is no key"
	}
	return ""
}

// fault is one that applies, if it does.
type fault struct {
	is bool
	e  api.Errno
}

// first is the error of the first one that applies.
func first(l ...fault) api.Errno {
	for _, f := range l {
		if f.is {
			return f.e
		}
	}
	return api.OK
}

// lawPut is d with t for the table of its name, or with it too; by names, its rows by keys.
func lawPut(d []api.Tab, t api.Tab) []api.Tab {
	out := slices.DeleteFunc(slices.Clone(d), func(x api.Tab) bool { return x.T.Name == t.T.Name })
	t.Rows = slices.Clone(t.Rows)
	slices.SortFunc(t.Rows, func(a, b []api.Value) int { return val.Order(a[t.T.Key], b[t.T.Key]) })
	out = append(out, t)
	slices.SortFunc(out, func(a, b api.Tab) int {
		if a.T.Name < b.T.Name {
			return -1
		}
		return 1
	})
	return out
}

// lawExec is P502.
func lawExec(d []api.Tab, s api.Stmt) ([]api.Tab, api.Answer) {
	switch s.Kind {
	case api.SCreate:
		return lawCreate(d, s)
	case api.SDrop:
		return lawDrop(d, s)
	case api.SLink:
		return lawLink(d, s)
	case api.SInsert:
		return lawInsert(d, s)
	case api.SUpdate:
		return lawUpdate(d, s)
	}
	return lawWhere(d, s)
}

func lawCreate(d []api.Tab, s api.Stmt) ([]api.Tab, api.Answer) {
	_, exists := lawFind(d, s.T.Name)
	next := lawPut(d, api.Tab{T: s.T})
	noTable, other := false, false
	for _, k := range s.T.Links {
		to, is := lawFind(next, k.Table)
		if !is {
			noTable = true
		} else if to.T.Cols[to.T.Key].Type != s.T.Cols[k.Col].Type {
			other = true
		}
	}
	e := first(fault{exists, api.Exists}, fault{len(d) >= 8, api.Limit}, fault{!lawRight(s.T), api.Type}, fault{noTable, api.NoTable}, fault{other, api.Type})
	if e != api.OK {
		return d, api.Answer{E: e}
	}
	return next, api.Answer{}
}

func lawDrop(d []api.Tab, s api.Stmt) ([]api.Tab, api.Answer) {
	_, is := lawFind(d, s.Name)
	linked := false
	for _, t := range d {
		for _, k := range t.T.Links {
			linked = linked || t.T.Name != s.Name && k.Table == s.Name
		}
	}
	if e := first(fault{!is, api.NoTable}, fault{linked, api.Ref}); e != api.OK {
		return d, api.Answer{E: e}
	}
	return slices.DeleteFunc(slices.Clone(d), func(t api.Tab) bool { return t.T.Name == s.Name }), api.Answer{}
}

// lawPlace is the place of a column.
func lawPlace(t api.Table, name string) int {
	for i, c := range t.Cols {
		if c.Name == name {
			return i
		}
	}
	return -1
}

func lawLink(d []api.Tab, s api.Stmt) ([]api.Tab, api.Answer) {
	t, is := lawFind(d, s.Name)
	to, isTo := lawFind(d, s.To)
	i := lawPlace(t.T, s.Col)
	if e := first(fault{!is, api.NoTable}, fault{!isTo, api.NoTable}, fault{i < 0, api.NoCol}); e != api.OK {
		return d, api.Answer{E: e}
	}
	other := t.T.Cols[i].Type != to.T.Cols[to.T.Key].Type
	full := len(t.T.Links) == 6
	t.T.Links = append(slices.Clone(t.T.Links), api.Link{Col: i, Table: s.To})
	next := lawPut(d, t)
	if e := first(fault{other, api.Type}, fault{full, api.Limit}, fault{!lawRight(t.T), api.Limit}, fault{lawRefs(next), api.Ref}); e != api.OK {
		return d, api.Answer{E: e}
	}
	return next, api.Answer{}
}

func lawInsert(d []api.Tab, s api.Stmt) ([]api.Tab, api.Answer) {
	t, is := lawFind(d, s.Name)
	if !is {
		return d, api.Answer{E: api.NoTable}
	}
	full := len(t.Rows) == 60
	t.Rows = append(slices.Clone(t.Rows), s.Row)
	if lawTypes(t) {
		return d, api.Answer{E: api.Type}
	}
	check := lawChecks(t)
	next := lawPut(d, t)
	if e := first(fault{lawNulls(t), api.Null}, fault{full, api.Limit}, fault{check != api.OK, check}, fault{lawTwice(t), api.Dup}, fault{lawRefs(next), api.Ref}); e != api.OK {
		return d, api.Answer{E: e}
	}
	return next, api.Answer{N: 1}
}

// lawTruth is what is wrong with a Where.
func lawTruth(t api.Table, x api.Expr) api.Errno {
	if x.Kind == api.XNone {
		return api.OK
	}
	kind, e := eval.Type(t, x)
	return first(fault{e != api.OK, e}, fault{kind != api.TBool && kind != api.TNull, api.Type})
}

func lawUpdate(d []api.Tab, s api.Stmt) ([]api.Tab, api.Answer) {
	t, is := lawFind(d, s.Name)
	i := lawPlace(t.T, s.Col)
	kind, eE := eval.Type(t.T, s.E)
	eWhere := lawTruth(t.T, s.Where)
	if e := first(fault{!is, api.NoTable}, fault{i < 0, api.NoCol}, fault{eE != api.OK, eE}); e != api.OK {
		return d, api.Answer{E: e}
	}
	if e := first(fault{kind != api.TNull && kind != t.T.Cols[i].Type, api.Type}, fault{eWhere != api.OK, eWhere}); e != api.OK {
		return d, api.Answer{E: e}
	}
	n := 0
	var after [][]api.Value
	for _, row := range t.Rows {
		holds, _, e := eval.Holds(t.T, row, s.Where)
		if e != api.OK {
			return d, api.Answer{E: e}
		}
		row = slices.Clone(row)
		if holds {
			v, e := eval.Eval(t.T, row, s.E)
			if e != api.OK {
				return d, api.Answer{E: e}
			}
			row[i] = v
			n++
		}
		after = append(after, row)
	}
	t.Rows = after
	check := lawChecks(t)
	next := lawPut(d, t)
	if e := first(fault{lawNulls(t), api.Null}, fault{check != api.OK, check}, fault{lawTwice(t), api.Dup}, fault{lawRefs(next), api.Ref}); e != api.OK {
		return d, api.Answer{E: e}
	}
	return next, api.Answer{N: n}
}

// lawWhere is of those that choose rows and change none.
func lawWhere(d []api.Tab, s api.Stmt) ([]api.Tab, api.Answer) {
	t, is := lawFind(d, s.Name)
	where := lawTruth(t.T, s.Where)
	if e := first(fault{!is, api.NoTable}, fault{where != api.OK, where}); e != api.OK {
		return d, api.Answer{E: e}
	}
	var in, out [][]api.Value
	for _, row := range t.Rows {
		holds, _, e := eval.Holds(t.T, row, s.Where)
		if e != api.OK {
			return d, api.Answer{E: e}
		}
		if holds {
			in = append(in, row)
		} else {
			out = append(out, row)
		}
	}
	switch s.Kind {
	case api.SSelect:
		return d, api.Answer{Rows: in}
	case api.SCount:
		return d, api.Answer{N: len(in)}
	}
	t.Rows = out
	next := lawPut(d, t)
	if lawRefs(next) {
		return d, api.Answer{E: api.Ref}
	}
	return next, api.Answer{N: len(in)}
}
