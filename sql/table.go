package sql

import (
	"slices"

	"federation/api"
)

func (r *reader) table() api.Table {
	t := api.Table{Name: r.name()}
	r.take("(")
	for c := range rule[api.Col](column).parted(r) {
		t.Cols = append(t.Cols, c)
		if r.ahead(1).word == "primary" {
			break
		}
	}
	own := rule[int](func(r *reader) int { return r.place(t.Cols) })
	r.take(",", "primary", "key")
	t.Key = own.within(r)
	for r.skip(",") {
		r.bond(&t, own)
	}
	r.take(")")
	return t
}

func column(r *reader) api.Col {
	c := api.Col{Name: r.name()}
	c.Type = r.columnType()
	if r.skip("not") {
		r.take("null")
		c.NotNull = true
	}
	return c
}

func (r *reader) columnType() int {
	for t := api.TBool; t <= api.TBytes; t++ {
		if r.skip(typeWord(t)) {
			return t
		}
	}
	r.refuse()
	return 0
}

func typeWord(t int) string {
	switch t {
	case api.TBool:
		return "bool"
	case api.TInt:
		return "int"
	case api.TDec:
		return "dec"
	case api.TText:
		return "text"
	case api.TBytes:
		return "bytes"
	}
	return ""
}

// place reads the name of one of cols; it is the first one of that name.
func (r *reader) place(cols []api.Col) int {
	i := slices.IndexFunc(cols, func(c api.Col) bool { return r.is(c.Name) })
	if i < 0 {
		r.refuse()
		return 0
	}
	r.pass()
	return i
}

// bond reads what stands behind a table's key: what is unique, what is checked, what is linked, in this order.
func (r *reader) bond(t *api.Table, own rule[int]) {
	early := t.Check.Kind == api.XNone && len(t.Links) == 0
	switch {
	case early && r.skip("unique"):
		t.Unique = append(t.Unique, own.within(r))
	case early && r.skip("check"):
		t.Check = rule[api.Expr](expression).within(r)
	case r.skip("foreign"):
		r.take("key")
		t.Links = append(t.Links, r.ownLink(own))
	default:
		r.refuse()
	}
}

func (r *reader) ownLink(own rule[int]) api.Link {
	l := api.Link{Col: own.within(r)}
	r.take("references")
	l.Table = r.name()
	return l
}
