package db

import (
	"slices"
	"strings"

	"federation/api"
)

// What is answered shares no memory with what was handed in, and no list with another: all of it is copied, texts too.

// each is a new list, of what f makes of each one.
func each[T any](l []T, f func(T) T) []T {
	out := slices.Grow([]T(nil), len(l))
	for _, x := range l {
		out = append(out, f(x))
	}
	return out
}

func freshTab(t api.Tab) api.Tab {
	return api.Tab{T: freshTable(t.T), Rows: each(t.Rows, freshRow)}
}

func freshRow(row []api.Value) []api.Value { return each(row, freshValue) }

func freshValue(v api.Value) api.Value {
	v.S = strings.Clone(v.S)
	return v
}

func freshTable(t api.Table) api.Table {
	t.Name = strings.Clone(t.Name)
	t.Cols = each(t.Cols, freshCol)
	t.Unique = each(t.Unique, func(i int) int { return i })
	t.Check = freshExpr(t.Check)
	t.Links = each(t.Links, freshLink)
	return t
}

func freshCol(c api.Col) api.Col {
	c.Name = strings.Clone(c.Name)
	return c
}

func freshLink(k api.Link) api.Link {
	k.Table = strings.Clone(k.Table)
	return k
}

func freshExpr(x api.Expr) api.Expr {
	x.Name, x.V, x.L = strings.Clone(x.Name), freshValue(x.V), each(x.L, freshExpr)
	return x
}
