package sql_test

import (
	"math"
	"math/big"
	"strings"
	"testing"

	"federation/api"
	"federation/sql"
	"federation/val"
)

// written are Right values and their texts.
func written() map[api.Value]string {
	return map[api.Value]string{
		{}:      "null",
		flag(0): "false",
		flag(1): "true",

		num(0):            "0",
		num(-1):           "-1",
		num(120):          "120",
		num(math.MaxInt):  "9223372036854775807",
		num(math.MinInt):  "-9223372036854775808",
		num(-math.MaxInt): "-9223372036854775807",

		dec(0, 0):       "0.0",
		dec(7, 0):       "7.0",
		dec(-100, 0):    "-100.0",
		dec(5, 1):       "0.5",
		dec(-5, 1):      "-0.5",
		dec(15, 1):      "1.5",
		dec(-1234, 2):   "-12.34",
		dec(1, 6):       "0.000001",
		dec(-1, 6):      "-0.000001",
		dec(1000001, 6): "1.000001",
		dec(999999, 6):  "0.999999",
		dec(1001, 3):    "1.001",
		dec(bound-1, 0): "999999999999999.0",
		dec(1-bound, 0): "-999999999999999.0",
		dec(bound-1, 6): "999999999.999999",
		dec(1-bound, 1): "-99999999999999.9",

		text(""):                      "''",
		text("it's"):                  "'it''s'",
		text("'"):                     "''''",
		text("''"):                    "''''''",
		text(" ~x'00'"):               "' ~x''00'''",
		text("null"):                  "'null'",
		text(strings.Repeat("a", 40)): "'" + strings.Repeat("a", 40) + "'",
		text(strings.Repeat("'", 40)): strings.Repeat("'", 82),

		raw(""):                         "x''",
		raw("\x00"):                     "x'00'",
		raw("\x0f\xf0\xab\xcd\xef\x19"): "x'0ff0abcdef19'",
		raw("'a"):                       "x'2761'",
		raw(strings.Repeat("\xff", 40)): "x'" + strings.Repeat("ff", 40) + "'",
	}
}

func TestLit(t *testing.T) {
	for v, want := range written() {
		if got := sql.Lit(v); got != want {
			t.Errorf("P301: Lit of %v: %s, not %s", v, got, want)
		}
	}
}

// literalIsRead holds that s is read as v in a row, and in an expression.
func literalIsRead(t *testing.T, s string, v api.Value) {
	t.Helper()
	isRead(t, "P301", "insert into t values ("+s+")", api.Stmt{Kind: api.SInsert, Name: "t", Row: []api.Value{v}})
	whereIsRead(t, "P301", s, lit(v))
}

// literalIsRefused holds that s is refused in both, at a place of its own.
func literalIsRefused(t *testing.T, s string, at int, e api.Errno) {
	t.Helper()
	isRefused(t, "P301", "insert into t values ("+s+")", len("insert into t values (")+at, e)
	whereIsRefused(t, "P301", s, at, e)
}

func TestLiteralsAreRead(t *testing.T) {
	for v, s := range written() {
		literalIsRead(t, s, v)
		literalIsRead(t, " \n"+s+"\n ", v)
	}
	for s, v := range map[string]api.Value{
		"007": num(7), "-007": num(-7), "- 7": num(-7), "-\n \n7": num(-7), "-0": num(0), "00": num(0),
		strings.Repeat("0", 3000) + "12":                      num(12),
		"-" + strings.Repeat("0", 30) + "9223372036854775808": num(math.MinInt),
		strings.Repeat("0", 30) + "9223372036854775807":       num(math.MaxInt),
		"1.50": dec(15, 1), "1.0": dec(1, 0), "10.0": dec(10, 0), "10.10": dec(101, 1), "-0.0": dec(0, 0), "- 1.50": dec(-15, 1),
		"00012.3400":                          dec(1234, 2),
		"0." + strings.Repeat("0", 3000):      dec(0, 0),
		"1.5" + strings.Repeat("0", 3000):     dec(15, 1),
		strings.Repeat("0", 3000) + ".000001": dec(1, 6),
		"999999999999999.000":                 dec(bound-1, 0),
		"- 999999999.9999990":                 dec(1-bound, 6),
	} {
		literalIsRead(t, s, v)
	}
}

func TestLiteralsBeyondLimits(t *testing.T) {
	for s, at := range map[string]int{
		"9223372036854775808": 0, "9223372036854775809": 0, "-9223372036854775809": 1, "- \n9223372036854775809": 3,
		"10000000000000000000": 0, "18446744073709551616": 0, "-18446744073709551617": 1, strings.Repeat("9", 3000): 0,
		"1000000000000000.0": 0, "-1000000000000000.0": 1, "999999999999999.1": 0, "9999999999.999999": 0, "99999999999999.99": 0,
		"0.0000001": 0, "-0.0000001": 1, "0.00000010": 0, "1.0000001": 0, "- 1.0000001": 2,
		"9223372036854775808.0": 0, "0." + strings.Repeat("0", 3000) + "1": 0, strings.Repeat("9", 3000) + ".5": 0,
		"18446744073709551616.0": 0, "1844674407370955161.6": 0,
		"'" + strings.Repeat("a", 41) + "'":     0,
		"'" + strings.Repeat("a", 40) + "'''":   0,
		"'" + strings.Repeat("''", 41) + "'":    0,
		"'" + strings.Repeat("a", 3000) + "'":   0,
		"x'" + strings.Repeat("00", 41) + "'":   0,
		"x'" + strings.Repeat("0f", 1000) + "'": 0,
		"thirteenlette":                         0,
		"a" + strings.Repeat("_", 12):           0,
		"x" + strings.Repeat("9", 1000) + "''":  0,
	} {
		literalIsRefused(t, s, at, api.Limit)
	}
	for _, s := range []string{"twelveletter", "a" + strings.Repeat("_", 11), "a23456789012"} {
		whereIsRead(t, "P301", s, col(s))
	}
}

// Digits that would be an int with a `-` are beyond a limit only where an operand stands; all else that is, wherever it stands.
func TestLimitsWhereverTheyStand(t *testing.T) {
	edge := "9223372036854775808"
	for front, operand := range map[string]bool{
		"": false, "drop table ": false, "drop table t ": false, "delete from t where a ": false, "update t set ": false,
		"insert into t values (1 ": false, "create table t (a int, primary key (": false, "select count(": false, "create table t (a ": false,
		"delete from t where ": true, "delete from t where a = ": true, "delete from t where a - ": true, "delete from t where 1 - ": true,
		"delete from t where (": true, "delete from t where not ": true, "update t set a = ": true, "insert into t values (": true,
		"insert into t values (1, ": true, "create table t (a int, primary key (a), check (": true,
	} {
		want := api.BadText
		if operand {
			want = api.Limit
		}
		isRefused(t, "P301", front+edge, len(front), want)
		for _, s := range []string{
			"9223372036854775809", "1000000000000000.0", "0.0000001", "thirteenlette",
			"'" + strings.Repeat("a", 41) + "'", "x'" + strings.Repeat("00", 41) + "'",
		} {
			isRefused(t, "P301", front+s, len(front), api.Limit)
			isRefused(t, "P301", front+"references "+s, len(front), api.BadText) // which may stand in none of them
		}
	}
}

func TestMinus(t *testing.T) {
	a, least := col("a"), lit(num(math.MinInt))
	for s, want := range map[string]api.Expr{
		"a - 1":     of(api.XSub, a, lit(num(1))),
		"a -1":      of(api.XSub, a, lit(num(1))),
		"a - -1":    of(api.XSub, a, lit(num(-1))),
		"a--1":      of(api.XSub, a, lit(num(-1))),
		"a - - - 1": of(api.XSub, a, of(api.XNeg, lit(num(-1)))),
		"-1 - 1":    of(api.XSub, lit(num(-1)), lit(num(1))),
		"-1 * a":    of(api.XMul, lit(num(-1)), a),
		"a * - 1":   of(api.XMul, a, lit(num(-1))),
		"a = -1.5":  of(api.XEq, a, lit(dec(-15, 1))),
		"--1":       of(api.XNeg, lit(num(-1))),
		"-(1)":      of(api.XNeg, lit(num(1))),
		"(-1)":      lit(num(-1)),
		"-'1'":      of(api.XNeg, lit(text("1"))),
		"-null":     of(api.XNeg, lit(api.Value{})),
		"-x'01'":    of(api.XNeg, lit(raw("\x01"))),
		"-true":     of(api.XNeg, lit(flag(1))),

		"a - - 9223372036854775808": of(api.XSub, a, least),
		"- -9223372036854775808":    of(api.XNeg, least),
	} {
		whereIsRead(t, "P301", s, want)
	}
	whereIsRefused(t, "P301", "-(9223372036854775808)", 2, api.Limit)
	whereIsRefused(t, "P301", "a -9223372036854775808", 3, api.Limit)
	for s, at := range map[string]int{
		"- 'a'": 0, "--1": 0, "- -1": 0, "-": 0, "-null": 0, "-true": 0, "-x'00'": 0, "-a": 0, "-(1)": 0,
		"-\x00": 0, "-thirteenlette": 0, "1, -": 3, "1 - 1": 2, "1 -1": 2,
	} {
		isRefused(t, "P303", "insert into t values ("+s+")", len("insert into t values (")+at, api.BadText)
	}
	isRefused(t, "P303", "insert into t values (-", len("insert into t values ("), api.BadText)
	isRefused(t, "P303", "insert into t values (- ", len("insert into t values ("), api.BadText)
}

// digits are some, zeros and nines often.
func (d *die) digits(most int) string {
	s := ""
	for range 1 + d.of(most) {
		s += one(d, "0", "0", "9", "9", string(rune('0'+d.of(10))))
	}
	return s
}

// known is what a number of any size must be read as, by numbers of any size; false: it is beyond a limit.
func known(minus bool, whole, part string) (api.Value, bool) {
	n, _ := new(big.Int).SetString(whole+part, 10)
	if minus {
		n.Neg(n)
	}
	v, ten := api.Value{Kind: api.TInt}, big.NewInt(10)
	if part != "" {
		v.Kind, v.Scale = api.TDec, len(part)
		for v.Scale > 0 && new(big.Int).Mod(n, ten).Sign() == 0 {
			n.Div(n, ten)
			v.Scale--
		}
	}
	if !n.IsInt64() {
		return v, false
	}
	v.N = int(n.Int64())
	return v, val.Right(v)
}

func TestNumbersOfAnySize(t *testing.T) {
	d, fine := &die{1}, 0
	for range 20000 {
		minus, whole, part := d.of(2) == 0, d.digits(20), ""
		if d.of(3) > 0 {
			whole, part = d.digits(16), d.digits(9)
		}
		s, at := whole, 0
		if part != "" {
			s += "." + part
		}
		if minus {
			front := one(d, "-", "- ", "-\n")
			s, at = front+s, len(front)
		}
		v, is := known(minus, whole, part)
		if !is {
			literalIsRefused(t, s, at, api.Limit)
			continue
		}
		fine++
		literalIsRead(t, s, v)
	}
	if fine < 2000 || fine > 18000 {
		t.Error(fine)
	}
}

// value is a Right one.
func (d *die) value() api.Value {
	switch d.of(6) {
	case 0:
		return flag(d.of(2))
	case 1:
		return num(d.of(1<<31) << d.of(34) * one(d, 1, -1))
	case 2:
		return val.Norm(dec((d.of(1<<31)<<19|d.of(1<<19))%bound*one(d, 1, -1), d.of(7)))
	case 3:
		b := make([]byte, d.of(41))
		for i := range b {
			b[i] = byte(one(d, 32+d.of(95), '\'', ' ', 'x'))
		}
		return text(string(b))
	case 4:
		b := make([]byte, d.of(41))
		for i := range b {
			b[i] = byte(d.of(256))
		}
		return raw(string(b))
	}
	return api.Value{}
}

func TestLiteralsThereAndBack(t *testing.T) {
	d := &die{2}
	for range 20000 {
		v := d.value()
		if !val.Right(v) {
			t.Fatal(v)
		}
		literalIsRead(t, sql.Lit(v), v)
	}
}

// What may not be handed in: the calls end and do not panic (P1), and answer the same again (P3).
func TestWrongLiterals(t *testing.T) {
	l := []api.Value{{N: 1}, {S: "a"}, flag(2), flag(-1), {Kind: 6}, {Kind: -1}, {Kind: math.MaxInt}, text("\x00"), text(strings.Repeat("a", 1000)), raw(strings.Repeat("a", 1000))}
	for _, n := range []int{math.MinInt, -bound, -10, -1, 0, 1, 10, bound, math.MaxInt} {
		for _, scale := range []int{math.MinInt, -7, -1, 0, 1, 7, 64, math.MaxInt} {
			l = append(l, dec(n, scale))
		}
	}
	for _, v := range l {
		if sql.Lit(v) != sql.Lit(v) || sql.Expr(lit(v)) != sql.Expr(lit(v)) {
			t.Errorf("P3: Lit of %v", v)
		}
	}
}
