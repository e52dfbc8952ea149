package key

import (
	"iter"
	"math/bits"

	"federation/api"
)

// unsigned are the numbers that are written as bytes.
type unsigned interface{ uint8 | uint32 | uint64 }

func appendKey(b []byte, v api.Value) []byte {
	b = appendNumber(b, uint8(v.Kind))
	switch v.Kind {
	case api.TBool:
		b = appendNumber(b, uint8(v.N))
	case api.TInt:
		b = appendNumber(b, uint64(v.N)^top)
	case api.TDec:
		whole, left := parts(v)
		b = appendNumber(b, uint64(whole)^top)
		b = appendNumber(b, uint32(left))
	case api.TText, api.TBytes:
		for c := range marked(v.S) {
			b = append(b, c)
		}
	}
	return b
}

func appendNumber[T unsigned](b []byte, n T) []byte {
	for c := range highestFirst(n) {
		b = append(b, c)
	}
	return b
}

func highestFirst[T unsigned](n T) iter.Seq[byte] {
	return func(yield func(byte) bool) {
		for at := width[T]() - 8; at >= 0; at -= 8 {
			if !yield(byte(n >> at)) {
				return
			}
		}
	}
}

// width is how many bits a number of T has.
func width[T unsigned]() int { return bits.Len64(uint64(^T(0))) }

// marked goes through the bytes of s and its end as a Key has them.
func marked(s string) iter.Seq[byte] {
	return func(yield func(byte) bool) {
		for i := range len(s) {
			if !yield(s[i]) || s[i] == zero && !yield(goesOn) {
				return
			}
		}
		_ = yield(zero) && yield(ends)
	}
}

// parts are the greatest whole number that is no more than v, and how many millionths are left.
func parts(v api.Value) (whole, left int) {
	p := power(v.Scale)
	whole, left = v.N/p, v.N%p
	if left < 0 {
		whole, left = whole-1, left+p
	}
	return whole, left * (million / p)
}

// power is 10 to the n, for n from 0 to maxScale; it stops there so that a Scale that may not be can't make a call endless.
func power(n int) int {
	p := 1
	for range min(n, maxScale) {
		p *= 10
	}
	return p
}
