package val_test

import (
	"math"
	"math/big"
	"testing"

	"federation/api"
	"federation/val"
)

// reckoned is a case of Reckon: what is asked, what it must answer.
type reckoned struct {
	kind int
	a, b api.Value
	want api.Value
	e    api.Errno
}

func check(t *testing.T, l []reckoned) {
	t.Helper()
	for _, x := range l {
		if v, e := val.Reckon(x.kind, x.a, x.b); v != x.want || e != x.e {
			t.Errorf("P103: %d of %v, %v: %v, %v, not %v, %v", x.kind, x.a, x.b, v, e, x.want, x.e)
		}
	}
}

func TestReckonInts(t *testing.T) {
	least, most, none := num(math.MinInt), num(math.MaxInt), api.Value{}
	check(t, []reckoned{
		{api.XNeg, num(5), num(9), num(-5), api.OK},
		{api.XNeg, num(0), num(9), num(0), api.OK},
		{api.XNeg, most, num(9), num(-math.MaxInt), api.OK},
		{api.XNeg, num(-math.MaxInt), num(9), most, api.OK},
		{api.XNeg, least, num(9), none, api.Overflow},
		{api.XAdd, num(2), num(-3), num(-1), api.OK},
		{api.XAdd, most, num(0), most, api.OK},
		{api.XAdd, most, num(1), none, api.Overflow},
		{api.XAdd, num(1), most, none, api.Overflow},
		{api.XAdd, most, most, none, api.Overflow},
		{api.XAdd, most, least, num(-1), api.OK},
		{api.XAdd, least, num(0), least, api.OK},
		{api.XAdd, least, num(-1), none, api.Overflow},
		{api.XAdd, least, least, none, api.Overflow},
		{api.XSub, num(2), num(3), num(-1), api.OK},
		{api.XSub, least, num(1), none, api.Overflow},
		{api.XSub, least, least, num(0), api.OK},
		{api.XSub, num(0), least, none, api.Overflow},
		{api.XSub, num(-1), least, most, api.OK},
		{api.XSub, most, num(-1), none, api.Overflow},
		{api.XMul, num(-2), num(3), num(-6), api.OK},
		{api.XMul, least, num(0), num(0), api.OK},
		{api.XMul, num(0), least, num(0), api.OK},
		{api.XMul, least, num(1), least, api.OK},
		{api.XMul, num(1), least, least, api.OK},
		{api.XMul, least, num(-1), none, api.Overflow},
		{api.XMul, num(-1), least, none, api.Overflow},
		{api.XMul, most, num(-1), num(-math.MaxInt), api.OK},
		{api.XMul, most, num(2), none, api.Overflow},
		{api.XMul, least, least, none, api.Overflow},
		{api.XMul, num(1 << 32), num(1 << 32), none, api.Overflow},
		{api.XMul, num(1 << 32), num(-1 << 31), least, api.OK},
		{api.XMul, num(1 << 32), num(1 << 31), none, api.Overflow},
	})
}

func TestReckonDecs(t *testing.T) {
	most, none := dec(bound-1, 0), api.Value{}
	check(t, []reckoned{
		{api.XNeg, dec(-15, 1), text("a"), dec(15, 1), api.OK},
		{api.XNeg, dec(0, 0), none, dec(0, 0), api.OK},
		{api.XNeg, most, none, dec(1-bound, 0), api.OK},
		{api.XNeg, dec(bound-1, 6), none, dec(1-bound, 6), api.OK},
		{api.XAdd, dec(15, 1), dec(5, 1), dec(2, 0), api.OK},
		{api.XAdd, dec(95, 1), dec(5, 1), dec(10, 0), api.OK},
		{api.XAdd, dec(1, 6), dec(1, 0), dec(1000001, 6), api.OK},
		{api.XAdd, dec(1, 0), dec(1, 6), dec(1000001, 6), api.OK},
		{api.XAdd, most, dec(1, 0), none, api.Overflow},
		{api.XAdd, most, dec(0, 0), most, api.OK},
		{api.XAdd, dec(bound-2, 0), dec(1, 0), most, api.OK},
		{api.XAdd, most, dec(1, 6), none, api.Overflow},
		{api.XAdd, dec(bound-1, 1), dec(1, 1), dec(bound/10, 0), api.OK}, // no more than the bound behind norming
		{api.XAdd, dec(bound-1, 1), dec(2, 1), none, api.Overflow},
		{api.XAdd, dec(999999999, 0), dec(999999, 6), dec(bound-1, 6), api.OK},
		{api.XAdd, dec(bound/1000000, 0), dec(1, 6), none, api.Overflow},
		{api.XAdd, dec(18446744073710, 0), dec(1, 6), none, api.Overflow}, // stretched, it wraps to a small number
		{api.XSub, dec(5, 1), dec(1, 0), dec(-5, 1), api.OK},
		{api.XSub, most, most, dec(0, 0), api.OK},
		{api.XSub, dec(1-bound, 0), dec(1, 0), none, api.Overflow},
		{api.XSub, dec(2-bound, 0), dec(1, 0), dec(1-bound, 0), api.OK},
		{api.XSub, dec(1, 6), most, none, api.Overflow},
		{api.XSub, dec(1, 6), dec(18446744073710, 0), none, api.Overflow},
		{api.XMul, dec(15, 1), dec(15, 1), dec(225, 2), api.OK},
		{api.XMul, dec(5, 1), dec(2, 0), dec(1, 0), api.OK},
		{api.XMul, dec(2, 6), dec(5, 1), dec(1, 6), api.OK},
		{api.XMul, dec(1, 6), dec(1, 1), none, api.Overflow},
		{api.XMul, dec(-125, 3), dec(8, 0), dec(-1, 0), api.OK},
		{api.XMul, most, dec(-1, 0), dec(1-bound, 0), api.OK},
		{api.XMul, most, dec(0, 0), dec(0, 0), api.OK},
		{api.XMul, dec(100000000, 0), dec(10000000, 0), none, api.Overflow},
		{api.XMul, dec(100000000, 0), dec(1000000, 0), dec(100000000000000, 0), api.OK},
		{api.XMul, dec(15625, 6), dec(64, 0), dec(1, 0), api.OK},
		{api.XMul, dec(15625, 6), dec(512000000000000, 0), dec(8000000000000, 0), api.OK}, // the product of both N is 8 * 10^18, an int
		{api.XMul, dec(78125, 6), dec(128000000000000, 0), none, api.Overflow},            // 10^13, but that product is 10^19
		{api.XMul, dec(1<<32, 0), dec(1<<32, 0), none, api.Overflow},                      // that product wraps to 0
	})
}

func TestReckonKinds(t *testing.T) {
	null := api.Value{}
	ways := []int{api.XMul, api.XAdd, api.XSub}
	for _, kind := range ways {
		for _, a := range []api.Value{null, num(1), dec(1, 0)} {
			check(t, []reckoned{{kind, a, null, null, api.OK}, {kind, null, a, null, api.OK}})
		}
		check(t, []reckoned{{kind, num(1), dec(1, 0), null, api.Type}, {kind, dec(1, 0), num(1), null, api.Type}})
		for _, a := range []api.Value{flag(0), flag(1), text(""), text("1"), raw(""), raw("1")} {
			for _, b := range rising() {
				check(t, []reckoned{{kind, a, b, null, api.Type}, {kind, b, a, null, api.Type}})
			}
		}
	}
	for _, b := range rising() {
		check(t, []reckoned{
			{api.XNeg, num(3), b, num(-3), api.OK},
			{api.XNeg, dec(3, 1), b, dec(-3, 1), api.OK},
			{api.XNeg, null, b, null, api.OK},
			{api.XNeg, flag(1), b, null, api.Type},
			{api.XNeg, text("1"), b, null, api.Type},
			{api.XNeg, raw("1"), b, null, api.Type},
		})
	}
	none := []int{api.XNone, api.XLit, api.XCol, api.XNot, api.XIsNull, api.XEq, api.XNe, api.XLt, api.XLe, api.XAnd, api.XOr, -1, 15, math.MinInt, math.MaxInt}
	for _, kind := range none {
		for _, a := range []api.Value{null, num(1), dec(1, 0), text("a"), num(math.MinInt)} {
			check(t, []reckoned{{kind, a, a, null, api.Type}, {kind, a, null, null, api.Type}})
		}
	}
}

// truth is what Reckon must answer of two decimals, by numbers of any size.
func truth(kind int, a, b api.Value) (api.Value, api.Errno) {
	r := new(big.Rat)
	switch kind {
	case api.XNeg:
		r.Neg(exact(a))
	case api.XMul:
		r.Mul(exact(a), exact(b))
		if !new(big.Int).Mul(big.NewInt(int64(a.N)), big.NewInt(int64(b.N))).IsInt64() {
			return api.Value{}, api.Overflow
		}
	case api.XAdd:
		r.Add(exact(a), exact(b))
	case api.XSub:
		r.Sub(exact(a), exact(b))
	}
	for scale := range 7 {
		if r.IsInt() && r.Num().IsInt64() && r.Num().CmpAbs(big.NewInt(bound)) < 0 {
			return dec(int(r.Num().Int64()), scale), api.OK
		}
		r.Mul(r, big.NewRat(10, 1))
	}
	return api.Value{}, api.Overflow
}

func TestReckonDecsExactly(t *testing.T) {
	d := &die{2}
	overflows := 0
	for range 20000 {
		a, b := d.decimal(), d.decimal()
		for _, kind := range []int{api.XNeg, api.XMul, api.XAdd, api.XSub} {
			want, e := truth(kind, a, b)
			check(t, []reckoned{{kind, a, b, want, e}})
			if e != api.OK {
				overflows++
			}
		}
	}
	if overflows < 1000 || overflows > 70000 {
		t.Errorf("the numbers that are thrown are of one sort alone: %d", overflows)
	}
}

func TestReckonIntsExactly(t *testing.T) {
	d := &die{3}
	for range 20000 {
		a, b := d.of(1<<31)<<d.of(34)-d.of(3), d.of(1<<31)<<d.of(34)-d.of(3)
		if d.of(2) == 0 {
			a = -a
		}
		if d.of(2) == 0 {
			b = -b
		}
		x, y := big.NewInt(int64(a)), big.NewInt(int64(b))
		for kind, n := range map[int]*big.Int{
			api.XNeg: new(big.Int).Neg(x),
			api.XMul: new(big.Int).Mul(x, y),
			api.XAdd: new(big.Int).Add(x, y),
			api.XSub: new(big.Int).Sub(x, y),
		} {
			if n.IsInt64() {
				check(t, []reckoned{{kind, num(a), num(b), num(int(n.Int64())), api.OK}})
			} else {
				check(t, []reckoned{{kind, num(a), num(b), api.Value{}, api.Overflow}})
			}
		}
	}
}

// What may not be handed in: the calls end, do not panic (P1), answer the same again (P3), and zero values beside an error (P4).
func TestReckonOfWrongValues(t *testing.T) {
	l := append(wrong(), rising()...)
	for _, a := range l {
		for _, b := range l {
			for kind := -1; kind <= 15; kind++ {
				v, e := val.Reckon(kind, a, b)
				check(t, []reckoned{{kind, a, b, v, e}})
				if e != api.OK && v != (api.Value{}) {
					t.Errorf("P4: %d of %v, %v: %v beside %v", kind, a, b, v, e)
				}
			}
		}
	}
}
