package eval_test

import (
	"math"
	"testing"

	"federation/api"
	"federation/eval"
	"federation/sql"
)

const bound = 1_000_000_000_000_000

func flag(n int) api.Value { return api.Value{Kind: api.TBool, N: n} }

func num(n int) api.Value { return api.Value{Kind: api.TInt, N: n} }

func dec(n, scale int) api.Value { return api.Value{Kind: api.TDec, N: n, Scale: scale} }

func text(s string) api.Value { return api.Value{Kind: api.TText, S: s} }

func raw(s string) api.Value { return api.Value{Kind: api.TBytes, S: s} }

func lit(v api.Value) api.Expr { return api.Expr{Kind: api.XLit, V: v} }

func col(name string) api.Expr { return api.Expr{Kind: api.XCol, Name: name} }

func of(kind int, l ...api.Expr) api.Expr { return api.Expr{Kind: kind, L: l} }

// Kinds of expressions, by what is asked of their children.
var (
	joining   = []int{api.XAnd, api.XOr}
	reckoning = []int{api.XMul, api.XAdd, api.XSub}
	comparing = []int{api.XEq, api.XNe, api.XLt, api.XLe}
	ofTwo     = []int{api.XAnd, api.XOr, api.XMul, api.XAdd, api.XSub, api.XEq, api.XNe, api.XLt, api.XLe}
	ofOne     = []int{api.XNot, api.XNeg, api.XIsNull}
)

// form is a table with two columns of each type: those of no letter behind the first have a value in row, the others are null there.
func form() api.Table {
	names := []string{"b", "bx", "i", "ix", "d", "dx", "s", "sx", "y", "yx"}
	t := api.Table{Name: "t"}
	for i, name := range names {
		t.Cols = append(t.Cols, api.Col{Name: name, Type: api.TBool + i/2})
	}
	return t
}

func row() []api.Value {
	return []api.Value{flag(1), {}, num(5), {}, dec(25, 1), {}, text("x"), {}, raw("x"), {}}
}

// read is an expression of a text.
func read(t *testing.T, s string) api.Expr {
	t.Helper()
	x, at, e := sql.Parse("delete from t where " + s)
	if e != api.OK {
		t.Fatalf("%s: %d, %v", s, at, e)
	}
	return x.Where
}

// samples are Right values, those of one Kind rising.
func samples() []api.Value {
	return []api.Value{
		{}, flag(0), flag(1),
		num(math.MinInt), num(-7), num(-1), num(0), num(1), num(10), num(math.MaxInt),
		dec(1-bound, 0), dec(-15, 1), dec(-1, 6), dec(0, 0), dec(1, 6), dec(1, 0), dec(15, 1), dec(10, 0), dec(bound-1, 0),
		text(""), text("A"), text("a"), text("aa"), text("it's"),
		raw(""), raw("\x00"), raw("A"), raw("\xff"),
	}
}

// die throws numbers that are the same in each run.
type die struct{ n uint64 }

func (d *die) of(k int) int {
	d.n = d.n*6364136223846793005 + 1442695040888963407
	return int(d.n>>33) % k
}

// one picks.
func one[T any](d *die, l ...T) T { return l[d.of(len(l))] }

func typeIs(t *testing.T, form api.Table, x api.Expr, want int, wantE api.Errno) {
	t.Helper()
	if got, e := eval.Type(form, x); got != want || e != wantE {
		t.Errorf("P401: Type of %.200s: %d, %v, not %d, %v", sql.Expr(x), got, e, want, wantE)
	}
}

// evalIs holds of Eval, and of Holds where it may be asked, which is told by its type.
func evalIs(t *testing.T, form api.Table, row []api.Value, x api.Expr, want api.Value, wantE api.Errno) {
	t.Helper()
	kind, e := eval.Type(form, x)
	if e != api.OK || want.Kind != api.TNull && want.Kind != kind {
		t.Errorf("P401: Type of %.200s: %d, %v, but %v is asked for", sql.Expr(x), kind, e, want)
	}
	if got, e := eval.Eval(form, row, x); got != want || e != wantE {
		t.Errorf("P402: Eval of %.200s over %v: %v, %v, not %v, %v", sql.Expr(x), row, got, e, want, wantE)
	}
	if kind != api.TBool && kind != api.TNull {
		return
	}
	wantIs, wantKnown := want == flag(1), want.Kind != api.TNull
	if is, known, e := eval.Holds(form, row, x); is != wantIs || known != wantKnown || e != wantE {
		t.Errorf("P402: Holds of %.200s over %v: %v, %v, %v, not %v, %v, %v", sql.Expr(x), row, is, known, e, wantIs, wantKnown, wantE)
	}
}
