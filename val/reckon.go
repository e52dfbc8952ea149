package val

import (
	"math"

	"federation/api"
)

// Reckon tells the number that kind makes of a and b (XNeg: of a alone).
func Reckon(kind int, a, b api.Value) (api.Value, api.Errno) {
	if kind == api.XNeg {
		kind, a, b = api.XSub, api.Value{Kind: a.Kind}, a
	}
	if !reckons(kind) || !numeric(a) || !numeric(b) {
		return api.Value{}, api.Type
	}
	if a.Kind == api.TNull || b.Kind == api.TNull {
		return api.Value{}, api.OK
	}
	if a.Kind != b.Kind {
		return api.Value{}, api.Type
	}
	v, fits := reckon(kind, a, b)
	if !fits {
		return api.Value{}, api.Overflow
	}
	return v, api.OK
}

func reckons(kind int) bool {
	return kind == api.XMul || kind == api.XAdd || kind == api.XSub
}

func numeric(v api.Value) bool {
	return v.Kind == api.TNull || v.Kind == api.TInt || v.Kind == api.TDec
}

// reckon takes two numbers of one Kind; false: theirs can't be of that Kind.
func reckon(kind int, a, b api.Value) (api.Value, bool) {
	if a.Kind == api.TInt {
		n, fits := reckonInts(kind, a.N, b.N)
		return api.Value{Kind: api.TInt, N: n}, fits
	}
	return reckonDecs(kind, a, b)
}

func reckonInts(kind, a, b int) (int, bool) {
	switch kind {
	case api.XMul:
		return multiply(a, b)
	case api.XAdd:
		return add(a, b)
	}
	return subtract(a, b)
}

func reckonDecs(kind int, a, b api.Value) (api.Value, bool) {
	scale, fitsA, fitsB := a.Scale+b.Scale, true, true
	if kind != api.XMul {
		// Of unlike Scales the one that is not stretched ends with no 0, so neither does the sum:
		// norming could not bring a stretched N that is no int back into bounds.
		scale = max(a.Scale, b.Scale)
		a.N, fitsA = multiply(a.N, power(scale-a.Scale))
		b.N, fitsB = multiply(b.N, power(scale-b.Scale))
	}
	n, fits := reckonInts(kind, a.N, b.N)
	v := Norm(api.Value{Kind: api.TDec, N: n, Scale: scale})
	return v, fitsA && fitsB && fits && Right(v)
}

// add, subtract, multiply say beside the wrapped number whether it is the true one.
func add(a, b int) (int, bool) {
	n := a + b
	return n, (n < a) == (b < 0)
}

func subtract(a, b int) (int, bool) {
	n := a - b
	return n, (n > a) == (b < 0)
}

func multiply(a, b int) (int, bool) {
	if b == 0 {
		return 0, true
	}
	n := a * b
	// The least int by -1 wraps to itself, both ways, so dividing back does not find it out.
	return n, n/b == a && !(a == math.MinInt && b == -1)
}
