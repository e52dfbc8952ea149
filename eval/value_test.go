package eval_test

import (
	"cmp"
	"fmt"
	"math"
	"math/big"
	"strings"
	"testing"

	"federation/api"
	"federation/eval"
)

// over holds what x tells, that has column l for its first child, r for its second; and likewise of literals in their places.
func over(t *testing.T, kind int, a, b api.Value, want api.Value, e api.Errno) {
	t.Helper()
	form := api.Table{Cols: []api.Col{{Name: "l", Type: a.Kind}, {Name: "m", Type: api.TInt}, {Name: "r", Type: b.Kind}}}
	row := []api.Value{a, num(77), b}
	evalIs(t, form, row, of(kind, col("l"), col("r")), want, e)
	evalIs(t, form, row, of(kind, lit(a), lit(b)), want, e)
	evalIs(t, form, row, of(kind, col("l"), lit(b)), want, e)
	evalIs(t, form, row, of(kind, lit(a), col("r")), want, e)
}

// truthOf is a truth as a value.
func truthOf(is bool) api.Value {
	if is {
		return flag(1)
	}
	return flag(0)
}

func TestLeaves(t *testing.T) {
	for i, c := range form().Cols {
		evalIs(t, form(), row(), col(c.Name), row()[i], api.OK)
	}
	for _, v := range samples() {
		evalIs(t, form(), row(), lit(v), v, api.OK)
		evalIs(t, api.Table{}, nil, lit(v), v, api.OK)
		evalIs(t, api.Table{Cols: []api.Col{}}, []api.Value{}, lit(v), v, api.OK)
	}
}

// A column may be null whatever its type; it is found by its whole name.
func TestColumnsOfRows(t *testing.T) {
	names := []string{"aa", "a", "ab", "a_", "abcdefghijkl", "abcdefghijk"}
	var form api.Table
	for _, name := range names {
		form.Cols = append(form.Cols, api.Col{Name: name, Type: api.TInt})
	}
	for null := range names {
		var row []api.Value
		for i := range names {
			row = append(row, num(100+i))
		}
		row[null] = api.Value{}
		for i, name := range names {
			evalIs(t, form, row, col(name), row[i], api.OK)
			evalIs(t, form, row, of(api.XIsNull, col(name)), truthOf(i == null), api.OK)
		}
	}
}

func TestComparing(t *testing.T) {
	l := samples()
	for i, a := range l {
		for k, b := range l {
			if a.Kind != b.Kind && a.Kind != api.TNull && b.Kind != api.TNull {
				continue
			}
			for kind, is := range map[int]bool{api.XEq: i == k, api.XNe: i != k, api.XLt: i < k, api.XLe: i <= k} {
				want := truthOf(is)
				if a.Kind == api.TNull || b.Kind == api.TNull {
					want = api.Value{}
				}
				over(t, kind, a, b, want, api.OK)
			}
		}
	}
}

// A column of a type may be null: then nothing is known of it, whatever it is held against.
func TestComparingNullColumns(t *testing.T) {
	for _, s := range []string{"ix = 5", "5 = ix", "ix = ix", "ix <> ix", "ix < 5", "5 <= ix", "ix <= ix", "sx = 'a'", "'a' < sx", "yx <> y", "dx <= d", "bx = true", "bx = bx", "ix = null", "null <> ix", "null <= null", "null < null"} {
		evalIs(t, form(), row(), read(t, s), api.Value{}, api.OK)
		evalIs(t, form(), row(), of(api.XIsNull, read(t, s)), flag(1), api.OK)
	}
}

func TestIsNull(t *testing.T) {
	for _, v := range samples() {
		want := truthOf(v.Kind == api.TNull)
		evalIs(t, form(), row(), of(api.XIsNull, lit(v)), want, api.OK)
		evalIs(t, form(), row(), of(api.XIsNull, of(api.XIsNull, lit(v))), flag(0), api.OK)
		form := api.Table{Cols: []api.Col{{Name: "a", Type: v.Kind}}}
		evalIs(t, form, []api.Value{v}, of(api.XIsNull, col("a")), want, api.OK)
	}
	for i, c := range form().Cols {
		evalIs(t, form(), row(), of(api.XIsNull, col(c.Name)), truthOf(i%2 == 1), api.OK)
	}
}

// f, n, t are false, null, true.
func TestTruths(t *testing.T) {
	const ands = "ff=f fn=f ft=f nf=f nn=n nt=n tf=f tn=n tt=t"
	const ors = "ff=f fn=n ft=t nf=n nn=n nt=t tf=t tn=t tt=t"
	const nots = "f=t n=n t=f"
	value := map[byte]api.Value{'f': flag(0), 'n': {}, 't': flag(1)}
	for kind, cases := range map[int]string{api.XAnd: ands, api.XOr: ors} {
		for _, c := range strings.Fields(cases) {
			over(t, kind, value[c[0]], value[c[1]], value[c[3]], api.OK)
			// Of truths that are themselves told of children, and of a column that is a bool but null.
			form := api.Table{Cols: []api.Col{{Name: "l", Type: api.TBool}, {Name: "r", Type: api.TBool}}}
			row := []api.Value{value[c[0]], value[c[1]]}
			evalIs(t, form, row, of(kind, col("l"), col("r")), value[c[3]], api.OK)
			evalIs(t, form, row, of(kind, read(t, "l = true"), read(t, "not (r = false)")), value[c[3]], api.OK)
		}
	}
	for _, c := range strings.Fields(nots) {
		form := api.Table{Cols: []api.Col{{Name: "a", Type: api.TBool}}}
		row := []api.Value{value[c[0]]}
		evalIs(t, form, row, read(t, "not a"), value[c[2]], api.OK)
		evalIs(t, form, row, read(t, "not not a"), value[c[0]], api.OK)
		evalIs(t, form, row, of(api.XNot, lit(row[0])), value[c[2]], api.OK)
	}
}

// exactly is what whole numbers make, reckoned with numbers of any size.
func exactly(kind int, a, b api.Value) (api.Value, api.Errno) {
	n := new(big.Int)
	x, y := big.NewInt(int64(a.N)), big.NewInt(int64(b.N))
	switch kind {
	case api.XNeg:
		n.Neg(x)
	case api.XMul:
		n.Mul(x, y)
	case api.XAdd:
		n.Add(x, y)
	case api.XSub:
		n.Sub(x, y)
	}
	if !n.IsInt64() {
		return api.Value{}, api.Overflow
	}
	return num(int(n.Int64())), api.OK
}

func TestReckoningInts(t *testing.T) {
	for _, a := range samples() {
		for _, b := range samples() {
			if a.Kind != api.TInt || b.Kind != api.TInt {
				continue
			}
			for _, kind := range reckoning {
				want, e := exactly(kind, a, b)
				over(t, kind, a, b, want, e)
			}
			want, e := exactly(api.XNeg, a, b)
			evalIs(t, form(), row(), of(api.XNeg, lit(a)), want, e)
		}
	}
}

func TestReckoning(t *testing.T) {
	for s, want := range map[string]api.Value{
		"i + 1": num(6), "i - 7": num(-2), "7 - i": num(2), "i * i": num(25), "i * -1": num(-5), "-i": num(-5), "-(-i)": num(5), "-(i - i)": num(0),
		"i - 1 - 2": num(2), "i - (1 - 2)": num(6), "i + 2 * 3": num(11), "(i + 2) * 3": num(21),
		"d + 0.5": dec(3, 0), "d - 2.5": dec(0, 0), "d * 2.0": dec(5, 0), "d * 0.1": dec(25, 2), "-d": dec(-25, 1), "0.000001 - d": dec(-2499999, 6),
		"ix + 1": {}, "1 - ix": {}, "-ix": {}, "ix * 0": {}, "0 * ix": {}, "dx + 1.0": {}, "1.0 * dx": {}, "-dx": {},
		"i + null": {}, "null - i": {}, "null * null": {}, "-null": {}, "d * null": {}, "(i + null) * 3": {}, "i - ix + 5": {},
		"999999999999999.0 - 1.0": dec(bound-2, 0),
	} {
		evalIs(t, form(), row(), read(t, s), want, api.OK)
	}
	for _, s := range []string{
		"9223372036854775807 + i", "i - -9223372036854775808", "-(-9223372036854775808)", "-(-9223372036854775807 - 1)", "4611686018427387904 * 2",
		"999999999999999.0 + 1.0", "d * 0.000001", "999999999.0 * 9999999999.0", "0.000001 * 0.1",
		"-9223372036854775808 - 1", "9223372036854775807 * i - 9223372036854775807 * i",
	} {
		evalIs(t, form(), row(), read(t, s), api.Value{}, api.Overflow)
	}
	evalIs(t, form(), row(), lit(num(math.MinInt)), num(math.MinInt), api.OK)
}

// An error of a child is told even where the others would have said what the whole tells.
func TestErrorsOfChildren(t *testing.T) {
	tooMuch := "(9223372036854775807 + i)"
	tooMuchDec := "(999999999999999.0 + 1.0)"
	for _, s := range []string{
		"%s", "-%s", "%s + 1", "1 + %s", "%s - null", "null - %s", "ix * %s", "%s * ix", "0 * %s", "%s * 0", "%s + %s",
		"%s = 1", "1 <> %s", "%s < null", "null <= %s", "ix = %s", "%s <> ix", "%s is null", "(null + %s) is null",
		"not (%s = 0)", "false and %s = 0", "%s = 0 and false", "true or %s = 0", "%s = 0 or true", "null and %s = 0", "null or %s is null",
		"b or b or b or %s = 1", "not b and (b or (b and %s is null))", "(not (not (-%s is null)))",
	} {
		evalIs(t, form(), row(), read(t, strings.ReplaceAll(s, "%s", tooMuch)), api.Value{}, api.Overflow)
	}
	for _, s := range []string{"%s", "%s + 1.5", "d - %s", "false and %s = 0.0", "dx = %s", "%s is null"} {
		evalIs(t, form(), row(), read(t, strings.ReplaceAll(s, "%s", tooMuchDec)), api.Value{}, api.Overflow)
	}
}

func TestHolds(t *testing.T) {
	for s, want := range map[string]string{
		"true": "true true ok", "false": "false true ok", "null": "false false ok",
		"b": "true true ok", "not b": "false true ok", "bx": "false false ok", "not bx": "false false ok", "bx is null": "true true ok", "b is null": "false true ok",
		"i = 5": "true true ok", "i < 5": "false true ok", "ix = 5": "false false ok", "-null": "false false ok", "null + null": "false false ok",
		"b and bx": "false false ok", "b or bx": "true true ok", "not b and bx": "false true ok",
		"9223372036854775807 + i = 0": "false false overflow", "b or 9223372036854775807 + i = 0": "false false overflow",
	} {
		is, known, e := eval.Holds(form(), row(), read(t, s))
		if got := fmt.Sprint(is, known, " ", e); got != want {
			t.Errorf("P402: Holds of %s: %s, not %s", s, got, want)
		}
	}
}

// No expression holds of every row, though it tells nothing.
func TestNoneHolds(t *testing.T) {
	for _, x := range []api.Expr{{}, {L: []api.Expr{}}} {
		for _, form := range []api.Table{{}, form()} {
			row := row()[:len(form.Cols)]
			if is, known, e := eval.Holds(form, row, x); !is || !known || e != api.OK {
				t.Errorf("P402: Holds of none: %v, %v, %v", is, known, e)
			}
			if v, e := eval.Eval(form, row, x); v != (api.Value{}) || e != api.OK {
				t.Errorf("P4: Eval of none: %v, %v", v, e)
			}
		}
	}
}

// What compares asks val: decimals of unlike Scales, texts by bytes.
func TestComparingIsByOrder(t *testing.T) {
	l := []string{"-10.5", "-10.0", "-0.000001", "0.0", "0.1", "0.25", "2.0", "2.49", "2.5", "10.0", "999999999999999.0"}
	for i, a := range l {
		for k, b := range l {
			want := cmp.Compare(i, k)
			evalIs(t, form(), row(), read(t, a+" < "+b), truthOf(want < 0), api.OK)
			evalIs(t, form(), row(), read(t, a+" <= "+b), truthOf(want <= 0), api.OK)
			evalIs(t, form(), row(), read(t, a+" = "+b), truthOf(want == 0), api.OK)
			evalIs(t, form(), row(), read(t, a+" <> "+b), truthOf(want != 0), api.OK)
		}
	}
	evalIs(t, form(), row(), read(t, "2.50 = d"), flag(1), api.OK)
	evalIs(t, form(), row(), read(t, "d + 0.5 = 3.0"), flag(1), api.OK)
}
