package sql

import (
	"iter"

	"federation/api"
)

// Rules of expressions: each reads its parts by the next one, which binds closer.

func expression(r *reader) api.Expr { return chain(r, conjunction, api.XOr) }

func conjunction(r *reader) api.Expr { return chain(r, negation, api.XAnd) }

func negation(r *reader) api.Expr {
	if r.is("not") {
		return of(api.XNot, rule[api.Expr](negation).deeper(r))
	}
	return comparison(r)
}

func comparison(r *reader) api.Expr {
	x := sum(r)
	if r.skip("is") {
		r.take("null")
		return of(api.XIsNull, x)
	}
	if kind := r.joint(api.XEq, api.XNe, api.XLt, api.XLe); kind != api.XNone {
		return of(kind, x, sum(r))
	}
	return x
}

func sum(r *reader) api.Expr { return chain(r, product, api.XAdd, api.XSub) }

func product(r *reader) api.Expr { return chain(r, operand, api.XMul) }

func operand(r *reader) api.Expr {
	switch {
	case r.is("("):
		x := rule[api.Expr](expression).deeper(r)
		r.take(")")
		return x
	case r.is("-") && !r.signed():
		return of(api.XNeg, rule[api.Expr](operand).deeper(r))
	case r.named():
		return api.Expr{Kind: api.XCol, Name: r.name()}
	}
	return api.Expr{Kind: api.XLit, V: r.literal()}
}

// chain reads things with signs of some kinds between, from the left on.
func chain(r *reader, part rule[api.Expr], kinds ...int) api.Expr {
	x := part(r)
	for kind := range r.joints(kinds...) {
		x = of(kind, x, part(r))
	}
	return x
}

// joints goes through joints, as long as there is one.
func (r *reader) joints(kinds ...int) iter.Seq[int] {
	return func(yield func(int) bool) {
		for {
			kind := r.joint(kinds...)
			if kind == api.XNone || !yield(kind) {
				return
			}
		}
	}
}

// joint passes the next sign, if it stands between the children of one of kinds, and tells which.
func (r *reader) joint(kinds ...int) int {
	for _, k := range kinds {
		if r.skip(joinedBy(k)) {
			return k
		}
	}
	return api.XNone
}

// joinedBy is the sign between the two children of an expression of a kind that has two.
func joinedBy(kind int) string {
	switch kind {
	case api.XMul:
		return "*"
	case api.XAdd:
		return "+"
	case api.XSub:
		return "-"
	case api.XEq:
		return "="
	case api.XNe:
		return "<>"
	case api.XLt:
		return "<"
	case api.XLe:
		return "<="
	case api.XAnd:
		return "and"
	case api.XOr:
		return "or"
	}
	return ""
}

func of(kind int, children ...api.Expr) api.Expr {
	return api.Expr{Kind: kind, L: children}
}
