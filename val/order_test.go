package val_test

import (
	"cmp"
	"math"
	"math/big"
	"testing"

	"federation/api"
	"federation/val"
)

// die throws numbers that are the same in each run.
type die struct{ n uint64 }

func (d *die) of(k int) int {
	d.n = d.n*6364136223846793005 + 1442695040888963407
	return int(d.n>>33) % k
}

// decimal is a Right one, of few or many digits.
func (d *die) decimal() api.Value {
	n := 1
	for range d.of(16) {
		n *= 10
	}
	n = min(n, bound-1) - d.of(3) + 1
	if d.of(2) == 0 {
		n = (d.of(1<<30)<<20 + d.of(1<<20)) % bound
	}
	if d.of(2) == 0 {
		n = -n
	}
	v := val.Norm(dec(n, d.of(7)))
	if !val.Right(v) {
		return dec(n/100, 0)
	}
	return v
}

// exact is a decimal's number, whatever its size.
func exact(v api.Value) *big.Rat {
	under := new(big.Int).Exp(big.NewInt(10), big.NewInt(int64(v.Scale)), nil)
	return new(big.Rat).SetFrac(big.NewInt(int64(v.N)), under)
}

// rising are Right values, each ahead of the next.
func rising() []api.Value {
	return []api.Value{
		{},
		flag(0), flag(1),
		num(math.MinInt), num(math.MinInt + 1), num(-2), num(-1), num(0), num(1), num(10), num(math.MaxInt - 1), num(math.MaxInt),
		dec(1-bound, 0), dec(2-bound, 0), dec(1-bound, 1), dec(1-bound, 6), dec(-2, 0), dec(-199, 2), dec(-15, 1), dec(-11, 1), dec(-1, 0), dec(-9, 1), dec(-1, 6),
		dec(0, 0), dec(1, 6), dec(1, 5), dec(9, 2), dec(1, 1), dec(999999, 6), dec(1, 0), dec(1000001, 6), dec(11, 1), dec(15, 1), dec(199, 2), dec(2, 0),
		dec(10, 0), dec(bound-1, 6), dec(bound-1, 5), dec(bound-2, 0), dec(bound-1, 0),
		text(""), text(" "), text("A"), text("a"), text("a "), text("aa"), text("b"), text("~"),
		raw(""), raw("\x00"), raw("\x00\x00"), raw("\x01"), raw("a"), raw("\x80"), raw("\xff"), raw("\xff\x00"),
	}
}

func TestOrder(t *testing.T) {
	l := rising()
	for i, a := range l {
		if !val.Right(a) {
			t.Errorf("P101: %v is not Right", a)
		}
		for k, b := range l {
			if got := val.Order(a, b); got != cmp.Compare(i, k) {
				t.Errorf("P102: Order of %v, %v: %d", a, b, got)
			}
		}
	}
}

func TestOrderOfDecimals(t *testing.T) {
	d := &die{1}
	for range 20000 {
		a, b := d.decimal(), d.decimal()
		if d.of(3) == 0 { // near to each other, of unlike Scales
			b = val.Norm(dec(a.N/10, max(a.Scale-1, 0)))
		}
		if got, want := val.Order(a, b), exact(a).Cmp(exact(b)); got != want {
			t.Fatalf("P102: Order of %v, %v: %d, not %d", a, b, got, want)
		}
	}
}

func TestLessAndSame(t *testing.T) {
	l := rising()
	for i, a := range l {
		for k, b := range l {
			may := a.Kind == b.Kind && a.Kind != api.TNull
			if is, known := val.Less(a, b); known != may || is != (may && i < k) {
				t.Errorf("P102: Less of %v, %v: %v, %v", a, b, is, known)
			}
			if is, known := val.Same(a, b); known != may || is != (may && i == k) {
				t.Errorf("P102: Same of %v, %v: %v, %v", a, b, is, known)
			}
		}
	}
}

// What may not be handed in: the calls end, do not panic (P1), and answer the same again (P3).
func TestOrderOfWrongValues(t *testing.T) {
	l := append(wrong(), rising()...)
	for _, a := range l {
		for _, b := range l {
			if val.Order(a, b) != val.Order(a, b) {
				t.Errorf("P3: Order of %v, %v", a, b)
			}
			val.Less(a, b)
			val.Same(a, b)
		}
	}
}
