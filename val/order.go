package val

import (
	"cmp"

	"federation/api"
)

// sides is the same part of two values, to be held against each other.
type sides[T cmp.Ordered] struct{ a, b T }

func (s sides[T]) order() int { return cmp.Compare(s.a, s.b) }

// Order is -1, 0 or 1: a is ahead of b, in the same place, or behind it.
func Order(a, b api.Value) int {
	// What a Kind does not have is nothing on both sides, so one list of parts serves all Kinds.
	parts := [...]func() int{
		sides[int]{a.Kind, b.Kind}.order,
		sides[int]{whole(a), whole(b)}.order,
		sides[int]{millionths(a), millionths(b)}.order,
		sides[string]{a.S, b.S}.order,
	}
	for _, order := range parts {
		if o := order(); o != 0 {
			return o
		}
	}
	return 0
}

// Less says whether a is ahead of b, and whether that is known.
func Less(a, b api.Value) (is, known bool) {
	known = ofOneKind(a, b)
	return known && Order(a, b) < 0, known
}

// Same says whether a is b, and whether that is known.
func Same(a, b api.Value) (is, known bool) {
	known = ofOneKind(a, b)
	return known && Order(a, b) == 0, known
}

func ofOneKind(a, b api.Value) bool {
	return a.Kind != api.TNull && a.Kind == b.Kind
}

// whole and millionths part a number at its point, both with its sign; decimals of unlike Scales, brought to one Scale, would not fit an int.
func whole(v api.Value) int { return v.N / power(v.Scale) }

func millionths(v api.Value) int { return v.N % power(v.Scale) * power(maxScale-v.Scale) }
