package eval_test

import (
	"math"
	"strings"
	"testing"
	"unsafe"

	"federation/api"
	"federation/eval"
)

// Texts of answers lie in memory of their own (P2).
func TestAnswersAreNewMemory(t *testing.T) {
	s := strings.Repeat("a", 40)
	row := row()
	row[6] = text(s)
	for _, x := range []api.Expr{col("s"), lit(text(s)), lit(raw(s))} {
		v, e := eval.Eval(form(), row, x)
		if e != api.OK || v.S != s {
			t.Errorf("P402: %v, %v", v, e)
		}
		if unsafe.StringData(v.S) == unsafe.StringData(s) {
			t.Errorf("P2: %v shares the memory of what was handed in", v)
		}
	}
}

// wrongExprs are none that sql.Parse tells.
func wrongExprs() []api.Expr {
	var l []api.Expr
	for _, kind := range []int{math.MinInt, -1, 0, 1, 2, 3, 4, 5, 6, 7, 8, 9, 10, 11, 12, 13, 14, 15, 99, math.MaxInt} {
		children := [][]api.Expr{
			nil, {}, {lit(num(1))}, {col("z")}, {{}}, {{}, {}}, {lit(text("a")), lit(flag(1))},
			{lit(flag(1)), lit(flag(0)), lit(num(1))}, {col("i"), col("i"), col("z"), col("s")}, {{Kind: 77}, {Kind: -3}},
			{lit(api.Value{Kind: 9}), lit(api.Value{Kind: 9, N: 1})}, {of(api.XNot), of(api.XAdd)},
		}
		for _, c := range children {
			l = append(l, api.Expr{Kind: kind, L: c}, api.Expr{Kind: kind, L: c, Name: "i", V: num(3)}, api.Expr{Kind: kind, L: c, Name: "s", V: dec(10, math.MinInt)})
		}
	}
	for _, v := range []api.Value{flag(2), dec(10, 1), dec(1, 99), dec(bound, 0), {N: 1}, {Kind: -1}, {Kind: 6}, {Kind: math.MinInt}, text(strings.Repeat("\x00", 99))} {
		l = append(l, lit(v))
		for _, kind := range ofOne {
			l = append(l, of(kind, lit(v)))
		}
		for _, kind := range ofTwo {
			l = append(l, of(kind, lit(v), lit(v)), of(kind, lit(num(1)), lit(v)), of(kind, lit(v), col("d")))
		}
	}
	return append(l, of(api.XAdd, l...), of(api.XAnd, l[3:]...))
}

// Whatever is handed in, the calls end and do not panic (P1), and answer zero values beside an error (P4).
func TestWrongOnes(t *testing.T) {
	twice := api.Table{Cols: []api.Col{{Name: "i", Type: api.TInt}, {Name: "i", Type: api.TText}, {Name: "", Type: 99}, {Name: "s", Type: -5}}}
	forms := []api.Table{{}, form(), twice, {Cols: []api.Col{}, Key: -1, Unique: []int{99}}}
	rows := [][]api.Value{nil, {}, row(), row()[:3], append(row(), row()...), {{Kind: 99}, {Kind: -1}, flag(7), {N: 5, S: "a"}}}
	for _, x := range append(wrongExprs(), col("i"), col("s"), col("yx"), col("")) {
		for _, form := range forms {
			if kind, e := eval.Type(form, x); e != api.OK && kind != 0 {
				t.Errorf("P4: Type of %v: %d, %v", x, kind, e)
			}
			for _, row := range rows {
				if v, e := eval.Eval(form, row, x); e != api.OK && v != (api.Value{}) {
					t.Errorf("P4: Eval of %v: %v, %v", x, v, e)
				}
				if is, known, e := eval.Holds(form, row, x); e != api.OK && (is || known) {
					t.Errorf("P4: Holds of %v: %v, %v, %v", x, is, known, e)
				}
			}
		}
	}
}
