package coord

import (
	"strings"

	"federation/api"
	"federation/shard"
)

// What is answered shares no memory with what was handed in, and no list with another: all of it is copied, texts too.

func fresh(t Txn) Txn {
	t.Mark = strings.Clone(t.Mark)
	t.L = each(t.L, freshStmt)
	t.Pairs = each(t.Pairs, freshPair)
	t.Writes = each(t.Writes, freshWrite)
	t.Made = freshMade(t.Made)
	t.Answers = each(t.Answers, freshAnswer)
	return t
}

func freshPair(p api.Pair) api.Pair {
	return api.Pair{K: strings.Clone(p.K), V: strings.Clone(p.V)}
}

func freshWrite(w api.Write) api.Write {
	w.K, w.V = strings.Clone(w.K), strings.Clone(w.V)
	return w
}

func freshMade(m shard.Made) shard.Made {
	m.Writes = each(m.Writes, freshWrite)
	return m
}

func freshAnswer(a api.Answer) api.Answer {
	a.Rows = each(a.Rows, freshRow)
	return a
}

func freshRow(row []api.Value) []api.Value { return each(row, freshValue) }

func freshValue(v api.Value) api.Value {
	v.S = strings.Clone(v.S)
	return v
}

func freshStmt(s api.Stmt) api.Stmt {
	s.Name, s.Col, s.To = strings.Clone(s.Name), strings.Clone(s.Col), strings.Clone(s.To)
	s.T, s.Row = freshTable(s.T), freshRow(s.Row)
	s.E, s.Where = freshExpr(s.E), freshExpr(s.Where)
	return s
}

func freshTable(t api.Table) api.Table {
	t.Name = strings.Clone(t.Name)
	t.Cols = each(t.Cols, freshCol)
	t.Unique = each(t.Unique, func(i int) int { return i })
	t.Check = freshExpr(t.Check)
	t.Links = each(t.Links, freshLink)
	return t
}

func freshCol(c api.Col) api.Col {
	c.Name = strings.Clone(c.Name)
	return c
}

func freshLink(k api.Link) api.Link {
	k.Table = strings.Clone(k.Table)
	return k
}

func freshExpr(x api.Expr) api.Expr {
	x.Name, x.V, x.L = strings.Clone(x.Name), freshValue(x.V), each(x.L, freshExpr)
	return x
}
