// Package val: values. See doc/01-val.md.
package val

import (
	"federation/api"
)

const (
	maxScale = 6
	decBound = 1_000_000_000_000_000 // a decimal's N lies strictly between -decBound and decBound
)

// Right says whether v is a value as its Kind may have it.
func Right(v api.Value) bool {
	switch v.Kind {
	case api.TNull:
		return v == api.Value{}
	case api.TBool:
		return v == api.Value{Kind: api.TBool, N: v.N} && (v.N == 0 || v.N == 1)
	case api.TInt:
		return v == api.Value{Kind: api.TInt, N: v.N}
	case api.TDec:
		return v == api.Value{Kind: api.TDec, N: v.N, Scale: v.Scale} && rightDec(v.N, v.Scale)
	case api.TText:
		return v == api.Value{Kind: api.TText, S: v.S} && len(v.S) <= api.MaxString && printable(v.S)
	case api.TBytes:
		return v == api.Value{Kind: api.TBytes, S: v.S} && len(v.S) <= api.MaxString
	}
	return false
}

// Norm takes the last zeros behind a decimal's point away; other values are as they are.
func Norm(v api.Value) api.Value {
	if v.Kind != api.TDec {
		return v
	}
	// Zero ends with a 0 however often it is divided: one step instead of Scale of them.
	if v.N == 0 {
		v.Scale = min(v.Scale, 0)
	}
	for v.Scale > 0 && v.N%10 == 0 {
		v.N /= 10
		v.Scale--
	}
	return v
}

func rightDec(n, scale int) bool {
	if n <= -decBound || n >= decBound || scale < 0 || scale > maxScale {
		return false
	}
	return scale == 0 || n%10 != 0
}

func printable(s string) bool {
	for i := range len(s) {
		if s[i] < 32 || s[i] > 126 {
			return false
		}
	}
	return true
}

// power is 10 to the n, for n from 0 to maxScale; it stops there so that a Scale that may not be can't make a call endless.
func power(n int) int {
	p := 1
	for range min(n, maxScale) {
		p *= 10
	}
	return p
}
