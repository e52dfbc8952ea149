package val_test

import (
	"math"
	"strings"
	"testing"

	"federation/api"
	"federation/val"
)

const bound = 1_000_000_000_000_000

func flag(n int) api.Value { return api.Value{Kind: api.TBool, N: n} }

func num(n int) api.Value { return api.Value{Kind: api.TInt, N: n} }

func dec(n, scale int) api.Value { return api.Value{Kind: api.TDec, N: n, Scale: scale} }

func text(s string) api.Value { return api.Value{Kind: api.TText, S: s} }

func raw(s string) api.Value { return api.Value{Kind: api.TBytes, S: s} }

// wrong are values that may not be: P1 alone holds of them where Right ones are asked for.
func wrong() []api.Value {
	l := []api.Value{
		{N: 1}, {Scale: 1}, {S: "a"},
		flag(2), flag(-1), {Kind: api.TBool, Scale: 1}, {Kind: api.TBool, S: "a"},
		{Kind: api.TInt, Scale: 1}, {Kind: api.TInt, N: 3, S: "a"}, {Kind: api.TInt, Scale: math.MaxInt},
		dec(0, 1), dec(10, 1), dec(-10, 6), dec(bound, 0), dec(-bound, 0), dec(1, 7), dec(1, -1),
		{Kind: api.TDec, N: 1, S: "a"},
		text("\x1f"), text("\x7f"), text("a\nb"), text("\u00e9"), text(strings.Repeat("a", 41)),
		{Kind: api.TText, N: 1}, {Kind: api.TText, Scale: 1},
		raw(strings.Repeat("\x00", 41)), {Kind: api.TBytes, N: 1}, {Kind: api.TBytes, Scale: 1},
		{Kind: 6}, {Kind: -1}, {Kind: math.MaxInt}, {Kind: math.MinInt},
	}
	for _, n := range []int{math.MinInt, -1, 0, 1, math.MaxInt} {
		for _, scale := range []int{math.MinInt, -7, 7, 18, 19, 20, 64, 1 << 62, math.MaxInt} {
			l = append(l, dec(n, scale))
		}
	}
	return l
}

func TestRightHolds(t *testing.T) {
	every := make([]byte, 0, 256)
	for b := range 256 {
		every = append(every, byte(b))
	}
	l := []api.Value{
		{}, flag(0), flag(1),
		num(0), num(10), num(math.MaxInt), num(math.MinInt), num(bound), num(-bound),
		dec(0, 0), dec(10, 0), dec(-10, 0), dec(bound-1, 0), dec(1-bound, 0), dec(bound-1, 6), dec(1-bound, 6),
		dec(1, 1), dec(101, 1), dec(-1, 6), dec(bound-10, 0),
		text(""), text(" "), text("~"), text("it's"), text(strings.Repeat("~", 40)),
		raw(""), raw(strings.Repeat("\xff", 40)),
	}
	for scale := range 7 {
		l = append(l, dec(7, scale), dec(-7, scale))
	}
	for i := 0; i < 256; i += 32 {
		l = append(l, raw(string(every[i:i+32])))
	}
	for _, v := range l {
		if !val.Right(v) {
			t.Errorf("P101: %v is not Right", v)
		}
	}
}

func TestRightRefuses(t *testing.T) {
	for _, v := range wrong() {
		if val.Right(v) {
			t.Errorf("P101: %v is Right", v)
		}
	}
	for n := -20; n <= 20; n++ {
		if want := n == 0 || n == 1; val.Right(flag(n)) != want {
			t.Errorf("P101: Right of bool %d", n)
		}
		for scale := -2; scale <= 9; scale++ {
			want := scale == 0 || scale > 0 && scale <= 6 && n%10 != 0
			if val.Right(dec(n, scale)) != want {
				t.Errorf("P101: Right of %d, Scale %d", n, scale)
			}
		}
	}
}

func TestRightAtTheBounds(t *testing.T) {
	for _, scale := range []int{0, 1, 6} {
		for _, sign := range []int{-1, 1} {
			for by := -2; by <= 2; by++ {
				n := sign * (bound + by)
				want := by < 0 && (scale == 0 || n%10 != 0)
				if val.Right(dec(n, scale)) != want {
					t.Errorf("P101: Right of %d, Scale %d", n, scale)
				}
			}
		}
	}
	for b := range 256 {
		for _, s := range []string{string([]byte{byte(b)}), "a" + string([]byte{byte(b)}), string([]byte{byte(b)}) + "a"} {
			if want := b >= 32 && b <= 126; val.Right(text(s)) != want {
				t.Errorf("P101: Right of text %q", s)
			}
			if !val.Right(raw(s)) {
				t.Errorf("P101: Right of bytes %q", s)
			}
		}
	}
	for size := range 100 {
		s := strings.Repeat("a", size)
		if want := size <= 40; val.Right(text(s)) != want || val.Right(raw(s)) != want {
			t.Errorf("P101: Right of %d bytes", size)
		}
	}
}

func TestNorm(t *testing.T) {
	for _, x := range []struct{ v, want api.Value }{
		{dec(150, 2), dec(15, 1)},
		{dec(-150, 2), dec(-15, 1)},
		{dec(15, 1), dec(15, 1)},
		{dec(100, 2), dec(1, 0)},
		{dec(100, 1), dec(10, 0)},
		{dec(10, 0), dec(10, 0)},
		{dec(0, 0), dec(0, 0)},
		{dec(0, 6), dec(0, 0)},
		{dec(0, math.MaxInt), dec(0, 0)},
		{dec(0, -1), dec(0, -1)},
		{dec(0, math.MinInt), dec(0, math.MinInt)},
		{dec(10, -1), dec(10, -1)},
		{dec(1000, 12), dec(1, 9)},
		{dec(1000, math.MaxInt), dec(1, math.MaxInt-3)},
		{dec(1_000_000_000_000_000_000, 20), dec(1, 2)},
		{dec(math.MinInt, 3), dec(math.MinInt, 3)},
		{dec(math.MaxInt, 3), dec(math.MaxInt, 3)},
		{api.Value{Kind: api.TDec, N: 20, Scale: 1, S: "a"}, api.Value{Kind: api.TDec, N: 2, S: "a"}},
		{api.Value{N: 10, Scale: 1}, api.Value{N: 10, Scale: 1}},
		{api.Value{Kind: api.TBool, N: 10, Scale: 1}, api.Value{Kind: api.TBool, N: 10, Scale: 1}},
		{api.Value{Kind: api.TInt, N: 10, Scale: 1}, api.Value{Kind: api.TInt, N: 10, Scale: 1}},
		{api.Value{Kind: api.TText, N: 10, Scale: 1, S: "0"}, api.Value{Kind: api.TText, N: 10, Scale: 1, S: "0"}},
		{api.Value{Kind: 99, N: 10, Scale: 1}, api.Value{Kind: 99, N: 10, Scale: 1}},
		{num(10), num(10)}, {text("10"), text("10")}, {raw("\x00"), raw("\x00")}, {api.Value{}, api.Value{}},
	} {
		if got := val.Norm(x.v); got != x.want {
			t.Errorf("P101: Norm of %v: %v, not %v", x.v, got, x.want)
		}
	}
}
