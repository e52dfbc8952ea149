package coord

import (
	"slices"
	"strings"
)

// each is a new list, of what f makes of each one.
func each[T any](l []T, f func(T) T) []T {
	out := slices.Grow([]T(nil), len(l))
	for _, x := range l {
		out = append(out, f(x))
	}
	return out
}

// only is a new list, of those of which is holds.
func only[T any](l []T, is func(T) bool) []T {
	var out []T
	for _, x := range l {
		if is(x) {
			out = append(out, x)
		}
	}
	return out
}

// byKeys is a new list, in the order of keys.
func byKeys[T any](l []T, key func(T) string) []T {
	return slices.SortedStableFunc(slices.Values(l), func(a, b T) int { return strings.Compare(key(a), key(b)) })
}
