package db

import (
	"iter"
	"slices"

	"federation/api"
	"federation/eval"
	"federation/sql"
)

// maxLinks is how many a table may have.
const maxLinks = 6

// fits says whether a table has no more than it may have, so that its text is of a size that can be written.
func fits(t api.Table) bool {
	return len(t.Cols) <= api.MaxCols && len(t.Unique) <= api.MaxCols && len(t.Links) <= maxLinks && short(t.Check)
}

// short says whether the text of x may be short enough to be read. An expression whose children lie in one memory can be far longer than what it is made of.
func short(x api.Expr) bool {
	left := api.MaxText
	for part := range parts(x) {
		// Each part has one sign at least.
		left--
		if left < 0 || len(part.Name) > api.MaxName {
			return false
		}
	}
	return true
}

// parts goes through an expression and all that hangs on it.
func parts(x api.Expr) iter.Seq[api.Expr] {
	return func(yield func(api.Expr) bool) { visit(x, yield) }
}

// visit says whether it was let go on to the end.
func visit(x api.Expr, yield func(api.Expr) bool) bool {
	if !yield(x) {
		return false
	}
	for _, c := range x.L {
		if !visit(c, yield) {
			return false
		}
	}
	return true
}

// reread says whether a table's text is read as it was. Names, types and places that may not be, and what no text says, are not.
func reread(t api.Table) bool {
	s, _, e := sql.Parse(createText(t))
	return e == api.OK && s.Kind == api.SCreate && sameTable(s.T, t)
}

func createText(t api.Table) string {
	return sql.Text(api.Stmt{Kind: api.SCreate, T: t})
}

func sameTable(a, b api.Table) bool {
	return a.Name == b.Name && a.Key == b.Key && sameExpr(a.Check, b.Check) &&
		slices.Equal(a.Cols, b.Cols) && slices.Equal(a.Unique, b.Unique) && slices.Equal(a.Links, b.Links)
}

func sameExpr(a, b api.Expr) bool {
	return a.Kind == b.Kind && a.Name == b.Name && a.V == b.V && slices.EqualFunc(a.L, b.L, sameExpr)
}

// unlike says whether no two columns have one name, and none is unique twice.
func unlike(t api.Table) bool {
	var names []string
	for _, c := range t.Cols {
		names = append(names, c.Name)
	}
	return !twice(names) && !twice(t.Unique)
}

// twice says whether one thing stands in a list more than once.
func twice[T comparable](l []T) bool {
	for i, x := range l {
		if slices.Contains(l[:i], x) {
			return true
		}
	}
	return false
}

// checkable says whether a table's Check may be asked of its rows.
func checkable(t api.Table) bool {
	return truthFault(t, t.Check) == api.OK
}

// truthFault is what is wrong with x, if it is to hold or not of rows of t.
func truthFault(t api.Table, x api.Expr) api.Errno {
	if x.Kind == api.XNone {
		return api.OK
	}
	return typeFault(t, x, api.TBool)
}

// typeFault is what is wrong with x, if over rows of t it is to be of a type, or null.
func typeFault(t api.Table, x api.Expr, want int) api.Errno {
	got, e := eval.Type(t, x)
	if e == api.OK && got != want && got != api.TNull {
		return api.Type
	}
	return e
}
