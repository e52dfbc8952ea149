package sql

import (
	"iter"

	"federation/api"
)

// statements goes through them, a `;` behind each, up to the end.
func (r *reader) statements() iter.Seq[api.Stmt] {
	return func(yield func(api.Stmt) bool) {
		for !r.done() {
			s := r.statement()
			r.take(";")
			if !yield(s) {
				return
			}
		}
	}
}

func (r *reader) statement() api.Stmt {
	switch {
	case r.skip("create"):
		r.take("table")
		return api.Stmt{Kind: api.SCreate, T: r.table()}
	case r.skip("drop"):
		r.take("table")
		return api.Stmt{Kind: api.SDrop, Name: r.name()}
	case r.skip("alter"):
		return r.link()
	case r.skip("insert"):
		return r.insert()
	case r.skip("update"):
		return r.update()
	case r.skip("delete"):
		return r.from(api.SDelete)
	case r.skip("select"):
		return r.choice()
	}
	r.refuse()
	return api.Stmt{}
}

func (r *reader) link() api.Stmt {
	s := api.Stmt{Kind: api.SLink}
	r.take("table")
	s.Name = r.name()
	r.take("add", "foreign", "key")
	s.Col = rule[string]((*reader).name).within(r)
	r.take("references")
	s.To = r.name()
	return s
}

func (r *reader) insert() api.Stmt {
	s := api.Stmt{Kind: api.SInsert}
	r.take("into")
	s.Name = r.name()
	r.take("values", "(")
	for v := range rule[api.Value]((*reader).literal).parted(r) {
		s.Row = append(s.Row, v)
	}
	r.take(")")
	return s
}

func (r *reader) update() api.Stmt {
	s := api.Stmt{Kind: api.SUpdate, Name: r.name()}
	r.take("set")
	s.Col = r.name()
	r.take("=")
	s.E = expression(r)
	s.Where = r.where()
	return s
}

func (r *reader) choice() api.Stmt {
	if r.skip("count") {
		r.take("(", "*", ")")
		return r.from(api.SCount)
	}
	r.take("*")
	return r.from(api.SSelect)
}

func (r *reader) from(kind int) api.Stmt {
	r.take("from")
	s := api.Stmt{Kind: kind, Name: r.name()}
	s.Where = r.where()
	return s
}

func (r *reader) where() api.Expr {
	if r.skip("where") {
		return expression(r)
	}
	return api.Expr{}
}
