package dump

import (
	"iter"
	"slices"
	"strconv"
	"strings"

	"federation/api"
)

// What a mark's K begins with, how many digits it then has, and its V; a chunk of a place beyond the last that the digits can say has no mark, so it is never in.
const (
	ofMark    = "p"
	digits    = 4
	isIn      = "1"
	lastPlace = 9999
)

// mark is that of the chunk at a place, up to the last.
func mark(at int) api.Pair {
	// One more digit ahead, which is cut off, makes the others as many as there must be.
	return api.Pair{K: ofMark + strconv.Itoa(lastPlace + 1 + at)[1:], V: isIn}
}

// placeOf is that of the chunk whose mark p is; false: p is no mark.
func placeOf(p api.Pair) (int, bool) {
	place, is := strings.CutPrefix(p.K, ofMark)
	if !is || len(place) != digits || p.V != isIn {
		return 0, false
	}
	at := 0
	for _, c := range []byte(place) {
		if c < '0' || c > '9' {
			return 0, false
		}
		at = at*10 + int(c-'0')
	}
	return at, true
}

func isMark(p api.Pair) bool {
	_, is := placeOf(p)
	return is
}

func isOther(p api.Pair) bool { return !isMark(p) }

// only goes through a list's elements of which is holds.
func only[T any](l []T, is func(T) bool) iter.Seq[T] {
	return func(yield func(T) bool) {
		for _, x := range l {
			if is(x) && !yield(x) {
				return
			}
		}
	}
}

// marked are the places whose marks are among pairs.
func marked(l []api.Pair) map[int]struct{} {
	in := map[int]struct{}{}
	for _, p := range l {
		if at, is := placeOf(p); is {
			in[at] = struct{}{}
		}
	}
	return in
}

// unmarked goes through the chunks that are not in, with their places.
func unmarked(in map[int]struct{}, chunks []api.Chunk) iter.Seq2[int, api.Chunk] {
	return func(yield func(int, api.Chunk) bool) {
		for i, c := range chunks {
			if _, is := in[i]; !is && !yield(i, c) {
				return
			}
		}
	}
}

// fresh are pairs in memory of their own, texts too.
func fresh(l iter.Seq[api.Pair]) []api.Pair {
	var out []api.Pair
	for p := range l {
		out = append(out, api.Pair{K: strings.Clone(p.K), V: strings.Clone(p.V)})
	}
	return out
}

// byKeys puts a list of its own in the order of K.
func byKeys(l []api.Pair) []api.Pair {
	slices.SortFunc(l, func(a, b api.Pair) int { return strings.Compare(a.K, b.K) })
	return l
}
