package eval_test

import (
	"reflect"
	"testing"

	"federation/api"
	"federation/eval"
	"federation/sql"
	"federation/val"
)

// lawType is P401, said once more: a call for each child.
func lawType(t api.Table, x api.Expr) (int, api.Errno) {
	var kinds []int
	seen := [6]bool{} // by type
	for _, c := range x.L {
		kind, e := lawType(t, c)
		if e != api.OK {
			return 0, e
		}
		kinds = append(kinds, kind)
		seen[kind] = true
	}
	isBool := !seen[api.TInt] && !seen[api.TDec] && !seen[api.TText] && !seen[api.TBytes]
	isNumber := !seen[api.TBool] && !seen[api.TText] && !seen[api.TBytes] && !(seen[api.TInt] && seen[api.TDec])
	switch x.Kind {
	case api.XLit:
		return x.V.Kind, api.OK
	case api.XCol:
		for _, c := range t.Cols {
			if c.Name == x.Name {
				return c.Type, api.OK
			}
		}
		return 0, api.NoCol
	case api.XNot, api.XAnd, api.XOr:
		if !isBool {
			return 0, api.Type
		}
	case api.XNeg, api.XMul, api.XAdd, api.XSub:
		if !isNumber {
			return 0, api.Type
		}
		if seen[api.TInt] {
			return api.TInt, api.OK
		}
		if seen[api.TDec] {
			return api.TDec, api.OK
		}
		return api.TNull, api.OK
	case api.XEq, api.XNe, api.XLt, api.XLe:
		if kinds[0] != kinds[1] && !seen[api.TNull] {
			return 0, api.Type
		}
	}
	return api.TBool, api.OK
}

// lawEval is P402, said once more: a call for each child.
func lawEval(t api.Table, row []api.Value, x api.Expr) (api.Value, api.Errno) {
	var null api.Value
	l := []api.Value{}
	for _, c := range x.L {
		v, e := lawEval(t, row, c)
		if e != api.OK {
			return null, e
		}
		l = append(l, v)
	}
	has := func(v api.Value) bool { return l[0] == v || l[1] == v }
	switch x.Kind {
	case api.XLit:
		return x.V, api.OK
	case api.XCol:
		for i, c := range t.Cols {
			if c.Name == x.Name {
				return row[i], api.OK
			}
		}
	case api.XNeg:
		return val.Reckon(x.Kind, l[0], null)
	case api.XMul, api.XAdd, api.XSub:
		return val.Reckon(x.Kind, l[0], l[1])
	case api.XIsNull:
		return truthOf(l[0] == null), api.OK
	case api.XNot:
		return map[api.Value]api.Value{flag(0): flag(1), null: null, flag(1): flag(0)}[l[0]], api.OK
	case api.XAnd:
		if has(flag(0)) {
			return flag(0), api.OK
		}
		if has(null) {
			return null, api.OK
		}
		return flag(1), api.OK
	case api.XOr:
		if has(flag(1)) {
			return flag(1), api.OK
		}
		if has(null) {
			return null, api.OK
		}
		return flag(0), api.OK
	}
	if has(null) {
		return null, api.OK
	}
	o := val.Order(l[0], l[1])
	return truthOf(x.Kind == api.XEq && o == 0 || x.Kind == api.XNe && o != 0 || x.Kind == api.XLt && o < 0 || x.Kind == api.XLe && o <= 0), api.OK
}

// value is a Right one, of a kind or null.
func (d *die) value(kind int) api.Value {
	if d.of(4) == 0 {
		return api.Value{}
	}
	for {
		if v := one(d, samples()...); v.Kind == kind {
			return v
		}
	}
}

// table is a form of 0 to 6 columns, and a row of it.
func (d *die) table() (api.Table, []api.Value) {
	t := api.Table{Name: "t"}
	var row []api.Value
	for i := range d.of(7) {
		c := api.Col{Name: string([]byte{byte('a' + i)}), Type: api.TBool + d.of(5)}
		t.Cols = append(t.Cols, c)
		row = append(row, d.value(c.Type))
	}
	return t, row
}

// leaf is a literal of a kind, or null, or a column, that may be of another kind or not be there.
func (d *die) leaf(t api.Table, kind int) api.Expr {
	if d.of(60) == 0 {
		return col("z")
	}
	c := api.Expr{Kind: api.XNone}
	for _, k := range t.Cols {
		if k.Type == kind && d.of(2) == 0 {
			c = col(k.Name)
		}
	}
	if c.Kind == api.XCol {
		return c
	}
	return lit(d.value(kind))
}

// expr is an expression of a kind, most of the time; deep at most as deep.
func (d *die) expr(t api.Table, kind, deep int) api.Expr {
	if d.of(40) == 0 {
		kind = api.TBool + d.of(5)
	}
	if deep == 0 || d.of(5) == 0 || kind == api.TText || kind == api.TBytes {
		return d.leaf(t, kind)
	}
	if kind != api.TBool {
		up := one(d, api.XNeg, api.XMul, api.XAdd, api.XSub)
		if up == api.XNeg {
			return of(up, d.expr(t, kind, deep-1))
		}
		return of(up, d.expr(t, kind, deep-1), d.expr(t, kind, deep-1))
	}
	up := one(d, api.XNot, api.XIsNull, api.XEq, api.XNe, api.XLt, api.XLe, api.XAnd, api.XOr)
	below := kind
	if up == api.XIsNull || up >= api.XEq && up <= api.XLe {
		below = api.TBool + d.of(5)
	}
	if up == api.XNot || up == api.XIsNull {
		return of(up, d.expr(t, below, deep-1))
	}
	return of(up, d.expr(t, below, deep-1), d.expr(t, below, deep-1))
}

func TestByTheLaw(t *testing.T) {
	d := &die{4}
	tally := map[string]int{}
	for range 60000 {
		form, row := d.table()
		x := d.expr(form, api.TBool+d.of(5), d.of(6))
		kind, e := lawType(form, x)
		typeIs(t, form, x, kind, e)
		tally["Type "+e.Error()]++
		if e != api.OK {
			continue
		}
		want, e := lawEval(form, row, x)
		evalIs(t, form, row, x, want, e)
		tally["Eval "+e.Error()]++
		tally["Eval "+sql.Lit(want)]++
	}
	for _, word := range []string{"Type ok", "Type column", "Type type", "Eval ok", "Eval overflow", "Eval true", "Eval false", "Eval null"} {
		if tally[word] < 1000 {
			t.Errorf("too few are thrown: %s: %d", word, tally[word])
		}
	}
}

// An expression that was read is told as the one that was written.
func TestAsRead(t *testing.T) {
	d := &die{5}
	for range 3000 {
		form, row := d.table()
		x := d.expr(form, api.TBool+d.of(5), d.of(4))
		s, _, e := sql.Parse(sql.Text(api.Stmt{Kind: api.SDelete, Name: "t", Where: x}))
		if e != api.OK {
			continue
		}
		kind, e := eval.Type(form, x)
		typeIs(t, form, s.Where, kind, e)
		if e == api.OK {
			want, e := eval.Eval(form, row, x)
			evalIs(t, form, row, s.Where, want, e)
		}
	}
}

// deep hangs expressions on the one side of a first one, n times, the other side being fine.
func deep(n, side, kind int, first, other api.Expr) api.Expr {
	for range n {
		l := []api.Expr{first, other}
		if side == 1 {
			l[0], l[1] = l[1], l[0]
		}
		first = api.Expr{Kind: kind, L: l}
	}
	return first
}

func TestDeep(t *testing.T) {
	const most = 1000 // of expressions that hang on one another
	for side := range 2 {
		sum := deep(most, side, api.XAdd, col("i"), lit(num(3)))
		evalIs(t, form(), row(), sum, num(5+3*most), api.OK)
		evalIs(t, form(), row(), deep(most, side, api.XAnd, col("b"), lit(flag(1))), flag(1), api.OK)
		evalIs(t, form(), row(), deep(most, side, api.XOr, col("bx"), lit(flag(0))), api.Value{}, api.OK)
		evalIs(t, form(), row(), deep(most, side, api.XAdd, col("i"), lit(num(1<<60))), api.Value{}, api.Overflow)
		typeIs(t, form(), deep(most, side, api.XAdd, col("z"), lit(num(3))), 0, api.NoCol)
		typeIs(t, form(), deep(most, side, api.XAdd, col("s"), lit(num(3))), 0, api.Type)
	}
	x := col("b")
	for range most {
		x = of(api.XNot, x)
	}
	evalIs(t, form(), row(), x, flag(1), api.OK)
	evalIs(t, form(), row(), of(api.XNot, x), flag(0), api.OK)
	evalIs(t, form(), row(), of(api.XIsNull, x), flag(0), api.OK)
}

// What is handed in, its spare room too, stays as it was (P2), and the same is answered again (P3).
func TestNothingIsChanged(t *testing.T) {
	d := &die{6}
	for range 500 {
		form, row := d.table()
		x := d.expr(form, api.TBool, 4)
		roomy := func() (api.Table, []api.Value, api.Expr) {
			cols := append(make([]api.Col, 0, 9), form.Cols...)
			return api.Table{Name: form.Name, Cols: cols}, append(make([]api.Value, 0, 9), row...), withRoom(x)
		}
		form1, row1, x1 := roomy()
		form2, row2, x2 := roomy()
		kind, e := eval.Type(form1, x1)
		v, f := eval.Eval(form1, row1, x1)
		is, known, g := eval.Holds(form1, row1, x1)
		if kind2, e2 := eval.Type(form1, x1); kind2 != kind || e2 != e {
			t.Fatalf("P3: Type of %s", sql.Expr(x))
		}
		if v2, f2 := eval.Eval(form1, row1, x1); v2 != v || f2 != f {
			t.Fatalf("P3: Eval of %s", sql.Expr(x))
		}
		if is2, known2, g2 := eval.Holds(form1, row1, x1); is2 != is || known2 != known || g2 != g {
			t.Fatalf("P3: Holds of %s", sql.Expr(x))
		}
		if !reflect.DeepEqual(form1.Cols[:9], form2.Cols[:9]) || !reflect.DeepEqual(row1[:9], row2[:9]) || !reflect.DeepEqual(all(x1), all(x2)) {
			t.Fatalf("P2: changed by %s", sql.Expr(x))
		}
	}
}

// withRoom is x anew, with spare room in its lists.
func withRoom(x api.Expr) api.Expr {
	l := make([]api.Expr, 0, 3)
	for _, c := range x.L {
		l = append(l, withRoom(c))
	}
	x.L = l
	return x
}

// all are x and what hangs on it, spare room too.
func all(x api.Expr) []api.Expr {
	l := []api.Expr{x}
	for _, c := range x.L[:cap(x.L)] {
		l = append(l, all(c)...)
	}
	return l
}
