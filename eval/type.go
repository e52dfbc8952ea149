package eval

import (
	"federation/api"
)

// typeOf is the type of an expression whose children are of types a and b; one that it has not counts as TNull, which may stand everywhere.
func typeOf(t api.Table, x api.Expr, a, b int) (int, api.Errno) {
	switch x.Kind {
	case api.XLit:
		return x.V.Kind, api.OK
	case api.XCol:
		c, e := ofColumn(t, t.Cols, x.Name)
		return c.Type, e
	case api.XNot, api.XAnd, api.XOr:
		return typeIf(logical(a) && logical(b), api.TBool)
	case api.XNeg, api.XMul, api.XAdd, api.XSub:
		return typeIf(numeric(a) && numeric(b) && match(a, b), notNull(a, b))
	case api.XEq, api.XNe, api.XLt, api.XLe:
		return typeIf(match(a, b), api.TBool)
	case api.XIsNull:
		return api.TBool, api.OK
	}
	return api.TNull, api.OK
}

func typeIf(may bool, kind int) (int, api.Errno) {
	if !may {
		return 0, api.Type
	}
	return kind, api.OK
}

func logical(kind int) bool { return kind == api.TNull || kind == api.TBool }

func numeric(kind int) bool {
	return kind == api.TNull || kind == api.TInt || kind == api.TDec
}

// match says whether things of two types can stand beside each other.
func match(a, b int) bool { return a == b || a == api.TNull || b == api.TNull }

// notNull is the type of two that is not TNull, if there is one.
func notNull(a, b int) int {
	if a == api.TNull {
		return b
	}
	return a
}
