package db

import (
	"iter"
	"slices"

	"federation/api"
	"federation/eval"
)

// done is what tables become by a statement, and what it is told; they may share memory with what they were.
func done(d tables, s api.Stmt) (tables, api.Answer) {
	if s.Kind == api.SCreate {
		return created(d, s.T)
	}
	t, is := d.get(s.Name)
	if !is {
		return refused(d, api.NoTable)
	}
	switch s.Kind {
	case api.SDrop:
		return dropped(d, t)
	case api.SLink:
		return linked(d, t, s)
	case api.SInsert:
		return inserted(d, t, s)
	case api.SUpdate:
		return updated(d, t, s)
	case api.SDelete:
		return deleted(d, t, s)
	case api.SSelect, api.SCount:
		return d, asked(t, s)
	}
	return refused(d, api.BadText)
}

func refused(d tables, e api.Errno) (tables, api.Answer) {
	return d, api.Answer{E: e}
}

func inserted(d tables, t api.Tab, s api.Stmt) (tables, api.Answer) {
	rows := append(slices.Clone(t.Rows), s.Row)
	return changed(d, t, rows, [][]api.Value{s.Row}, 1)
}

func updated(d tables, t api.Tab, s api.Stmt) (tables, api.Answer) {
	col := place(t.T, s.Col)
	if col < 0 {
		return refused(d, api.NoCol)
	}
	if e := typeFault(t.T, s.E, t.T.Cols[col].Type); e != api.OK {
		return refused(d, e)
	}
	if e := truthFault(t.T, s.Where); e != api.OK {
		return refused(d, e)
	}
	var news [][]api.Value
	rows := slices.Clone(t.Rows)
	for i, e := range holding(t, s.Where) {
		if e != api.OK {
			return refused(d, e)
		}
		v, e := eval.Eval(t.T, rows[i], s.E)
		if e != api.OK {
			return refused(d, e)
		}
		rows[i] = replaced(rows[i], col, v)
		news = append(news, rows[i])
	}
	return changed(d, t, rows, news, len(news))
}

// replaced is a row with another value at a place.
func replaced(row []api.Value, col int, v api.Value) []api.Value {
	row = slices.Clone(row)
	if col < len(row) {
		row[col] = v
	}
	return row
}

func deleted(d tables, t api.Tab, s api.Stmt) (tables, api.Answer) {
	gone, e := chosen(t, s.Where)
	if e != api.OK {
		return refused(d, e)
	}
	var rows [][]api.Value
	for i, row := range t.Rows {
		if _, is := slices.BinarySearch(gone, i); !is {
			rows = append(rows, row)
		}
	}
	return changed(d, t, rows, nil, len(gone))
}

func asked(t api.Tab, s api.Stmt) api.Answer {
	l, e := chosen(t, s.Where)
	if e != api.OK || s.Kind == api.SCount {
		return api.Answer{E: e, N: len(l)}
	}
	var a api.Answer
	for _, i := range l {
		a.Rows = append(a.Rows, t.Rows[i])
	}
	return a
}

// chosen are the places of the rows of which where holds, rising.
func chosen(t api.Tab, where api.Expr) ([]int, api.Errno) {
	if e := truthFault(t.T, where); e != api.OK {
		return nil, e
	}
	var l []int
	for i, e := range holding(t, where) {
		if e != api.OK {
			return nil, e
		}
		l = append(l, i)
	}
	return l, api.OK
}

// holding goes through the places of the rows of which where holds; at one of which it has an error, it tells that.
func holding(t api.Tab, where api.Expr) iter.Seq2[int, api.Errno] {
	return func(yield func(int, api.Errno) bool) {
		for i, row := range t.Rows {
			is, _, e := eval.Holds(t.T, row, where)
			if (is || e != api.OK) && !yield(i, e) {
				return
			}
		}
	}
}

// place is that of the column of a name, -1 if there is none.
func place(t api.Table, name string) int {
	return slices.IndexFunc(t.Cols, func(c api.Col) bool { return c.Name == name })
}
