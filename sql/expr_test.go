package sql_test

import (
	"reflect"
	"strings"
	"testing"

	"federation/api"
	"federation/sql"
)

func TestBinding(t *testing.T) {
	a, b, c, d := col("a"), col("b"), col("c"), col("d")
	for s, want := range map[string]api.Expr{
		"a": a, "((a))": a, "null": lit(api.Value{}), "(true)": lit(flag(1)),
		"a + b * c":   of(api.XAdd, a, of(api.XMul, b, c)),
		"a * b + c":   of(api.XAdd, of(api.XMul, a, b), c),
		"(a + b) * c": of(api.XMul, of(api.XAdd, a, b), c),
		"a - b - c":   of(api.XSub, of(api.XSub, a, b), c),
		"a - b + c":   of(api.XAdd, of(api.XSub, a, b), c),
		"a + b - c":   of(api.XSub, of(api.XAdd, a, b), c),
		"a - (b - c)": of(api.XSub, a, of(api.XSub, b, c)),
		"a * b * c":   of(api.XMul, of(api.XMul, a, b), c),
		"-a * b":      of(api.XMul, of(api.XNeg, a), b),
		"a * -b":      of(api.XMul, a, of(api.XNeg, b)),
		"-a + b":      of(api.XAdd, of(api.XNeg, a), b),
		"-(a + b)":    of(api.XNeg, of(api.XAdd, a, b)),
		"- - a":       of(api.XNeg, of(api.XNeg, a)),
		"-a is null":  of(api.XIsNull, of(api.XNeg, a)),
		"-(-1)":       of(api.XNeg, lit(num(-1))),

		"a + b = c * d":   of(api.XEq, of(api.XAdd, a, b), of(api.XMul, c, d)),
		"a <> b":          of(api.XNe, a, b),
		"a < b - c":       of(api.XLt, a, of(api.XSub, b, c)),
		"a <= -b":         of(api.XLe, a, of(api.XNeg, b)),
		"(a = b) = c":     of(api.XEq, of(api.XEq, a, b), c),
		"a = (b = c)":     of(api.XEq, a, of(api.XEq, b, c)),
		"a + b is null":   of(api.XIsNull, of(api.XAdd, a, b)),
		"(a is null) < b": of(api.XLt, of(api.XIsNull, a), b),
		"null is null":    of(api.XIsNull, lit(api.Value{})),

		"not a":                  of(api.XNot, a),
		"not not a":              of(api.XNot, of(api.XNot, a)),
		"not a = b":              of(api.XNot, of(api.XEq, a, b)),
		"(not a) = b":            of(api.XEq, of(api.XNot, a), b),
		"not a is null":          of(api.XNot, of(api.XIsNull, a)),
		"not a and b":            of(api.XAnd, of(api.XNot, a), b),
		"a and not b":            of(api.XAnd, a, of(api.XNot, b)),
		"not (a and b)":          of(api.XNot, of(api.XAnd, a, b)),
		"a or not not b or c":    of(api.XOr, of(api.XOr, a, of(api.XNot, of(api.XNot, b))), c),
		"a and b or c and d":     of(api.XOr, of(api.XAnd, a, b), of(api.XAnd, c, d)),
		"a or b and c or d":      of(api.XOr, of(api.XOr, a, of(api.XAnd, b, c)), d),
		"a and b and c":          of(api.XAnd, of(api.XAnd, a, b), c),
		"a and (b or c)":         of(api.XAnd, a, of(api.XOr, b, c)),
		"a = b or c is null":     of(api.XOr, of(api.XEq, a, b), of(api.XIsNull, c)),
		"a < b and c <= d or -a": of(api.XOr, of(api.XAnd, of(api.XLt, a, b), of(api.XLe, c, d)), of(api.XNeg, a)),
	} {
		whereIsRead(t, "P302", s, want)
	}
}

func TestExprIsRefused(t *testing.T) {
	for s, at := range map[string]int{
		"": 0, "   ": 3, "a b": 2, "1 2": 2, "a 'b'": 2, "a x''": 2, "a (b)": 2, "(a) b": 4, "(a)(b)": 3, "'a' 'b'": 4,
		"a = b = c": 6, "a = b < c": 6, "a <= b <> c": 7, "a is null is null": 10, "a is null = b": 10, "a = b is null": 6, "a is null + 1": 10, "a is null null": 10,
		"a is": 4, "a is not null": 5, "a is true": 5, "is null": 0, "a is is null": 5,
		"a = not b": 4, "a + not b": 4, "a * not b": 4, "- not b": 2, "-not b": 1, "not": 3, "not = b": 4, "a not b": 2, "not and b": 4,
		"(a": 2, "a)": 1, "()": 1, "(": 1, ")": 0, "(a b)": 3, "((a)": 4, "(a,": 2, "a,b": 1, "a, b": 1,
		"a +": 3, "a + + b": 4, "+ a": 0, "* a": 0, "a * * b": 4, "a * + b": 4, "a and": 5, "a and and b": 6, "and a": 0, "a or": 4, "or": 0, "a and or b": 6, "-": 1, "--": 2, "- ": 2, "a -": 3,
		"a = ": 4, "= b": 0, "a = = b": 4, "< b": 0, "select": 0, "a where b": 2, "where a": 0, "int": 0, "a and int": 6, "a + count": 4, "a = values": 4,
	} {
		whereIsRefused(t, "P302", s, at, api.BadText)
	}
}

func TestExprIsWritten(t *testing.T) {
	a, b, one := col("a"), col("b"), lit(num(1))
	sum := of(api.XAdd, a, b)
	for want, x := range map[string]api.Expr{
		"a": a, "1": one, "-1": lit(num(-1)), "null": lit(api.Value{}), "'it''s'": lit(text("it's")), "x'00'": lit(raw("\x00")), "-0.5": lit(dec(-5, 1)),
		"not a": of(api.XNot, a), "not 1": of(api.XNot, one), "not (a + b)": of(api.XNot, sum), "not (not a)": of(api.XNot, of(api.XNot, a)),
		"-(a)": of(api.XNeg, a), "-(1)": of(api.XNeg, one), "-(-1)": of(api.XNeg, lit(num(-1))), "-(a + b)": of(api.XNeg, sum), "-(-(a))": of(api.XNeg, of(api.XNeg, a)),
		"a is null": of(api.XIsNull, a), "1 is null": of(api.XIsNull, one), "(a + b) is null": of(api.XIsNull, sum), "(a is null) is null": of(api.XIsNull, of(api.XIsNull, a)),
		"a * 1": of(api.XMul, a, one), "a + b": sum, "a - b": of(api.XSub, a, b), "a - -1": of(api.XSub, a, lit(num(-1))),
		"a = b": of(api.XEq, a, b), "a <> b": of(api.XNe, a, b), "a < b": of(api.XLt, a, b), "a <= b": of(api.XLe, a, b),
		"a and b": of(api.XAnd, a, b), "a or b": of(api.XOr, a, b),
		"(a + b) * (a + b)": of(api.XMul, sum, sum), "(-(a)) * 1": of(api.XMul, of(api.XNeg, a), one), "a = (not b)": of(api.XEq, a, of(api.XNot, b)),
		"((a + b) + 1) + a": of(api.XAdd, of(api.XAdd, sum, one), a), "(a is null) and (a = b)": of(api.XAnd, of(api.XIsNull, a), of(api.XEq, a, b)),
	} {
		if got := sql.Expr(x); got != want {
			t.Errorf("P302: Expr of %v: %s, not %s", x, got, want)
		}
		whereIsRead(t, "P304", want, x)
	}
}

func TestDepth(t *testing.T) {
	rep := strings.Repeat
	for _, s := range []string{
		rep("(", 12) + "a" + rep(")", 12), rep("-", 12) + "a", rep("- ", 12) + "1", rep("-", 13) + "1", rep("not ", 12) + "a",
		rep("(not -", 4) + "a" + rep(")", 4), rep("(not -", 4) + "-1" + rep(")", 4), rep("-(", 6) + "-1" + rep(")", 6),
		rep("(", 12) + "a" + rep(")", 12) + " + " + rep("(", 12) + "b" + rep(")", 12),
		rep("-", 12) + "a * " + rep("-", 12) + "a", rep("not ", 12) + "a and " + rep("not ", 12) + "b",
		rep("(a) + ", 30) + "(a)", rep("-a * ", 30) + "-a", rep("not a or ", 30) + "not a", rep("((", 6) + "a" + rep(") + (b))", 6),
		rep("(", 12) + "-1" + rep(")", 12), rep("a + ", 900) + "a",
	} {
		if x, at, e := sql.Parse("delete from t where " + s); e != api.OK || x.Kind != api.SDelete {
			t.Errorf("P302: %.80q: %d, %v", s, at-len("delete from t where "), e)
		}
	}
	for s, at := range map[string]int{
		rep("(", 13) + "a" + rep(")", 13): 12, rep("-", 13) + "a": 12, rep("- ", 13) + "a": 24, rep("-", 14) + "1": 12, rep("not ", 13) + "a": 48,
		rep("(", 13): 12, rep("(", 99): 12, rep("-", 13): 12, rep("not ", 13): 48, rep("-", 13) + "\x00": 12, rep("(", 13) + "thirteenlette": 12,
		rep("(", 12) + "-a": 12, rep("(", 12) + "not a": 12, rep("not ", 12) + "(a)": 48, rep("not ", 12) + "-a": 48, rep("not ", 12) + "a + b * -a": 56, rep("-", 12) + "(a)": 12,
		rep("(-", 6) + "(a": 12, rep("(not -", 4) + "-a": 24, rep("(not -", 4) + "(a": 24, rep("not -(", 4) + "not a": 24,
		rep("(", 12) + "a + (b": 16, rep("(", 12) + "a = -b": 16, rep("(", 12) + "a or b and not c": 23, rep("(", 12) + "a" + rep(")", 11) + " + " + rep("(", 12): 38,
		rep("(", 12) + "-9223372036854775809": 13, rep("(", 12) + "9223372036854775808": 12,
	} {
		whereIsRefused(t, "P302", s, at, api.Limit)
		isRefused(t, "P302", "update t set a = "+s, len("update t set a = ")+at, api.Limit)
		front := "create table t (a int, primary key (a), check ("
		isRefused(t, "P302", front+s, len(front)+at, api.Limit) // the `(` of check is none of the expression's
	}
	front := "create table t (a int, primary key (a), check ("
	isRead(t, "P302", front+rep("(", 12)+"a"+rep(")", 12)+"))", api.Stmt{Kind: api.SCreate, T: api.Table{Name: "t", Cols: []api.Col{{Name: "a", Type: api.TInt}}, Check: col("a")}})
	whereIsRefused(t, "P302", rep("(", 12)+"a", 13, api.BadText)
	whereIsRefused(t, "P302", rep("(", 12)+"a (b", 14, api.BadText)
	whereIsRefused(t, "P302", rep("(", 12)+"a not b", 14, api.BadText)
	whereIsRefused(t, "P302", rep("(", 12)+"a = not b", 16, api.BadText)
}

// tree is an expression of any kind.
func (d *die) tree(deep int) api.Expr {
	kind := d.of(api.XOr + 1)
	switch {
	case deep == 0 || kind <= api.XLit:
		return lit(d.value())
	case kind == api.XCol:
		return col(one(d, "a", "b", "x", "a_1", "twelveletter"))
	case kind <= api.XIsNull:
		return of(kind, d.tree(deep-1))
	}
	return of(kind, d.tree(deep-1), d.tree(deep-1))
}

// binds is how close a kind binds its parts.
func binds(kind int) int {
	return []int{0, 7, 7, 3, 7, 4, 6, 5, 5, 4, 4, 4, 4, 2, 1}[kind]
}

// bare is an expression as a text with as few `( )` as can be, blanks thrown; least is how close it must bind.
func (d *die) bare(x api.Expr, least int) string {
	gap := one(d, " ", "\n", "  ")
	level := binds(x.Kind)
	s := ""
	switch x.Kind {
	case api.XLit:
		s = sql.Lit(x.V)
	case api.XCol:
		s = x.Name
	case api.XNot:
		s = "not" + gap + d.bare(x.L[0], level)
	case api.XNeg:
		s = d.bare(x.L[0], level)
		if s[0] >= '0' && s[0] <= '9' {
			s = "(" + s + ")"
		}
		s = "-" + s
	case api.XIsNull:
		s = d.bare(x.L[0], 5) + gap + "is" + gap + "null"
	default:
		sign := strings.Fields("* + - = <> < <= and or")[x.Kind-api.XMul]
		left := level
		if level == 4 {
			left = 5
		}
		s = d.bare(x.L[0], left) + gap + sign + gap + d.bare(x.L[1], level+1)
	}
	if level < least || d.of(12) == 0 {
		s = "(" + s + ")"
	}
	return s
}

// T4: an expression that is written, by Expr or otherwise, is read as it was.
func TestExprThereAndBack(t *testing.T) {
	d, fine := &die{3}, 0
	for range 20000 {
		x := d.tree(d.of(6))
		for _, s := range []string{sql.Expr(x), d.bare(x, 0)} {
			got, _, e := sql.Parse("delete from t where " + s)
			if e == api.Limit && (strings.Count(s, "(")+strings.Count(s, "-")+strings.Count(s, "not") > 12 || len(s) > 3900) {
				continue
			}
			fine++
			if e != api.OK || !reflect.DeepEqual(got.Where, x) {
				t.Fatalf("P304: %q: %v, not %v", s, got.Where, x)
			}
		}
	}
	if fine < 30000 {
		t.Error(fine)
	}
}

// What may not be handed in: the calls end and do not panic (P1), and answer the same again (P3).
func TestWrongExprs(t *testing.T) {
	for kind := -2; kind < 20; kind++ {
		for _, x := range []api.Expr{of(kind), of(kind, api.Expr{}), of(kind, of(kind), of(-1), of(99)), {Kind: kind, Name: "\x00", V: dec(1, 1<<40)}} {
			s := api.Stmt{Kind: api.SUpdate, E: x, Where: x, T: api.Table{Check: x}}
			if sql.Expr(x) != sql.Expr(x) || sql.Text(s) != sql.Text(s) {
				t.Errorf("P3: %v", x)
			}
			s.Kind = api.SCreate
			sql.Text(s)
		}
	}
}

func TestDeepExprs(t *testing.T) {
	x, want := col("a"), "a"
	for i := range 1000 {
		x = of(api.XNot, x)
		if i > 0 {
			want = "(" + want + ")"
		}
		want = "not " + want
	}
	if got := sql.Expr(x); got != want {
		t.Errorf("P302: %.80s", got)
	}
}
