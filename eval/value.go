package eval

import (
	"federation/api"
	"federation/val"
)

// truth is one of three. What is not known stands between the others, so that of several `and` tells the least, `or` the greatest.
type truth int

const (
	no      truth = -1
	unknown truth = 0
	yes     truth = 1
)

// valueOf is what an expression tells whose children tell a and b.
func valueOf(t api.Table, row []api.Value, x api.Expr, a, b api.Value) (api.Value, api.Errno) {
	switch x.Kind {
	case api.XLit:
		return x.V, api.OK
	case api.XCol:
		return ofColumn(t, row, x.Name)
	case api.XNeg, api.XMul, api.XAdd, api.XSub:
		return val.Reckon(x.Kind, a, b)
	}
	return valueOfTruth(truthFrom(x.Kind, a, b)), api.OK
}

// truthFrom is what a kind of expression that tells a truth makes of a and b.
func truthFrom(kind int, a, b api.Value) truth {
	switch kind {
	case api.XNot:
		return -truthOf(a)
	case api.XAnd:
		return min(truthOf(a), truthOf(b))
	case api.XOr:
		return max(truthOf(a), truthOf(b))
	case api.XIsNull:
		return truthIf(a.Kind == api.TNull)
	case api.XEq, api.XNe, api.XLt, api.XLe:
		return compared(kind, a, b)
	}
	return unknown
}

func compared(kind int, a, b api.Value) truth {
	same, known := val.Same(a, b)
	less, _ := val.Less(a, b)
	if !known {
		return unknown
	}
	switch kind {
	case api.XEq:
		return truthIf(same)
	case api.XNe:
		return truthIf(!same)
	case api.XLt:
		return truthIf(less)
	}
	return truthIf(less || same)
}

func truthIf(is bool) truth {
	if is {
		return yes
	}
	return no
}

func truthOf(v api.Value) truth {
	if v.Kind == api.TNull {
		return unknown
	}
	return truthIf(v.N == 1)
}

func valueOfTruth(t truth) api.Value {
	switch t {
	case yes:
		return api.Value{Kind: api.TBool, N: 1}
	case no:
		return api.Value{Kind: api.TBool}
	}
	return api.Value{}
}
