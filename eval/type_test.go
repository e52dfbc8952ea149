package eval_test

import (
	"math"
	"strings"
	"testing"

	"federation/api"
	"federation/eval"
)

// What each sort of expression tells: a line for each type of the first child, a sign for each of the second (or for that of the only one); `!` is the error Type.
const (
	typesOfJoining   = "11!!!! 11!!!! !!!!!! !!!!!! !!!!!! !!!!!!"
	typesOfReckoning = "0!23!! !!!!!! 2!2!!! 3!!3!! !!!!!! !!!!!!"
	typesOfComparing = "111111 11!!!! 1!1!!! 1!!1!! 1!!!1! 1!!!!1"
	typesOfNot       = "11!!!!"
	typesOfNeg       = "0!23!!"
	typesOfIsNull    = "111111"
)

// ofType are expressions of each type: a literal, columns, and such as have children.
func ofType(t *testing.T) [][]api.Expr {
	texts := []string{
		"null; -null; null + null; null * -null",
		"true; b; bx; not null; not b; b and null; null or null; i = 5; null = null; d <> null; null < s; y <= y; s is null; null is null",
		"-3; i; ix; -i; -ix; i + 1; null - i; i * null; -(null + 1)",
		"1.0; d; dx; -d; -dx; d + 1.0; null - d; d * null; -(null + 1.0)",
		"''; 'a'; s; sx",
		"x''; x'61'; y; yx",
	}
	l := make([][]api.Expr, len(texts))
	for kind, s := range texts {
		for one := range strings.SplitSeq(s, "; ") {
			l[kind] = append(l[kind], read(t, one))
		}
	}
	return l
}

func wanted(sign byte) (int, api.Errno) {
	if sign == '!' {
		return 0, api.Type
	}
	return int(sign - '0'), api.OK
}

func TestTypesOfLeaves(t *testing.T) {
	for kind, l := range ofType(t) {
		for _, x := range l {
			typeIs(t, form(), x, kind, api.OK)
		}
	}
	for _, v := range samples() {
		typeIs(t, form(), lit(v), v.Kind, api.OK)
		typeIs(t, api.Table{}, lit(v), v.Kind, api.OK)
	}
}

func TestTypesOfTwo(t *testing.T) {
	l := ofType(t)
	for want, kinds := range map[string][]int{typesOfJoining: joining, typesOfReckoning: reckoning, typesOfComparing: comparing} {
		lines := strings.Fields(want)
		for _, kind := range kinds {
			for i := range lines {
				for k := range lines {
					want, e := wanted(lines[i][k])
					for _, a := range l[i] {
						for _, b := range l[k] {
							typeIs(t, form(), of(kind, a, b), want, e)
						}
					}
				}
			}
		}
	}
}

func TestTypesOfOne(t *testing.T) {
	for kind, l := range ofType(t) {
		for _, x := range l {
			for up, signs := range map[int]string{api.XNot: typesOfNot, api.XNeg: typesOfNeg, api.XIsNull: typesOfIsNull} {
				want, e := wanted(signs[kind])
				typeIs(t, form(), of(up, x), want, e)
			}
		}
	}
}

// Two sides that are not of one type are told at the place where they meet, not ahead of it.
func TestTypesGoUp(t *testing.T) {
	for s, want := range map[string]int{
		"null + null + 1":               api.TInt,
		"null + 1 + null":               api.TInt,
		"null - (null * 1.5)":           api.TDec,
		"(null + null) = 's'":           api.TBool,
		"(i = 5) = b":                   api.TBool,
		"(i is null) < (s = 'a')":       api.TBool,
		"(null and null) or not b":      api.TBool,
		"((i + 1) is null) and null":    api.TBool,
		"-(-(i)) * (2 - ix) <= -3 + i":  api.TBool,
		"(b or null) is null":           api.TBool,
		"(null = i) = (null = 's')":     api.TBool,
		"(-null) and (null + null)":     api.TBool,
		"d + dx * -(1.5) - null":        api.TDec,
		"not not not (null * null)":     api.TBool,
		"(sx is null) and (yx is null)": api.TBool,
	} {
		typeIs(t, form(), read(t, s), want, api.OK)
	}
	for _, s := range []string{
		"null + 1 + 1.0", "1.0 - null - i", "-(null + i) * d", "(null + 1) = 1.0", "(null = i) = i", "(null = 's') + 1", "not (null + 1)",
		"(i is null) = i", "-(i is null)", "(b and null) < 1", "(null - i) or null", "s = y", "s + s", "y * y", "b - b", "-b", "not i", "i < d",
	} {
		typeIs(t, form(), read(t, s), 0, api.Type)
	}
}

// A column is found by its whole name, wherever it stands, and has whatever type the table gives it.
func TestTypeOfColumns(t *testing.T) {
	names := []string{"aa", "a", "ab", "a_", "a1", "b", "abcdefghijkl", "abcdefghijk"}
	var form api.Table
	for i, name := range names {
		form.Cols = append(form.Cols, api.Col{Name: name, Type: i, NotNull: i%2 == 0})
	}
	form.Name, form.Key, form.Unique = "table1", 1, []int{2}
	for i, name := range names {
		typeIs(t, form, col(name), i, api.OK)
	}
	for _, name := range []string{"c", "table1", "abc", "abcdefghij", "aaa", "t"} {
		typeIs(t, form, col(name), 0, api.NoCol)
		typeIs(t, api.Table{}, col(name), 0, api.NoCol)
		typeIs(t, api.Table{Name: name, Cols: []api.Col{}}, col(name), 0, api.NoCol)
	}
	var wide api.Table
	for i := range 500 {
		name := "c" + string([]byte{byte('a' + i%26), byte('a' + i/26)})
		wide.Cols = append(wide.Cols, api.Col{Name: name, Type: api.TBool + i%5})
	}
	for i, c := range wide.Cols {
		typeIs(t, wide, col(c.Name), api.TBool+i%5, api.OK)
	}
}

// A type that no value has is of no sort, and is like itself alone.
func TestStrangeTypesOfColumns(t *testing.T) {
	for _, strange := range []int{-1, 6, 99, math.MinInt, math.MaxInt} {
		form := api.Table{Cols: []api.Col{{Name: "a", Type: strange}, {Name: "b", Type: strange}, {Name: "i", Type: api.TInt}}}
		a, b, i, null := col("a"), col("b"), col("i"), lit(api.Value{})
		typeIs(t, form, a, strange, api.OK)
		typeIs(t, form, of(api.XNot, a), 0, api.Type)
		typeIs(t, form, of(api.XNeg, a), 0, api.Type)
		typeIs(t, form, of(api.XIsNull, a), api.TBool, api.OK)
		for _, kind := range append(joining, reckoning...) {
			typeIs(t, form, of(kind, a, b), 0, api.Type)
			typeIs(t, form, of(kind, a, null), 0, api.Type)
			typeIs(t, form, of(kind, null, a), 0, api.Type)
		}
		for _, kind := range comparing {
			typeIs(t, form, of(kind, a, b), api.TBool, api.OK)
			typeIs(t, form, of(kind, a, null), api.TBool, api.OK)
			typeIs(t, form, of(kind, a, i), 0, api.Type)
			typeIs(t, form, of(kind, i, a), 0, api.Type)
		}
	}
}

// faulty are expressions with an error of their own or of a child.
func faulty(t *testing.T) map[api.Errno][]api.Expr {
	return map[api.Errno][]api.Expr{
		api.NoCol: {col("z"), read(t, "not z"), read(t, "-z"), read(t, "z is null"), read(t, "z + s"), read(t, "s + z"), read(t, "z = (not s)"), read(t, "(s is null) and z")},
		api.Type:  {read(t, "not i"), read(t, "-s"), read(t, "i + d"), read(t, "b and s"), read(t, "i = s"), read(t, "(not i) = z"), read(t, "(b or s) or z"), read(t, "(-b) is null")},
	}
}

func TestFirstErrorOfTypes(t *testing.T) {
	fine := ofType(t)
	for e, l := range faulty(t) {
		for _, x := range l {
			typeIs(t, form(), x, 0, e)
			for _, kind := range ofOne {
				typeIs(t, form(), of(kind, x), 0, e)
				typeIs(t, form(), of(api.XNot, of(api.XNeg, of(kind, x))), 0, e)
			}
			for _, kind := range ofTwo {
				for _, other := range faulty(t) {
					for _, y := range other {
						typeIs(t, form(), of(kind, x, y), 0, e)
					}
				}
				for _, good := range fine {
					typeIs(t, form(), of(kind, x, good[0]), 0, e)
					typeIs(t, form(), of(kind, good[0], x), 0, e)
				}
			}
		}
	}
}

// No expression (a `where` that lacks) has no children, so none that is not TNull.
func TestTypeOfNone(t *testing.T) {
	typeIs(t, form(), api.Expr{}, api.TNull, api.OK)
	typeIs(t, api.Table{}, api.Expr{}, api.TNull, api.OK)
	typeIs(t, form(), api.Expr{L: []api.Expr{}}, api.TNull, api.OK)
}

func TestTypeAsksNoRow(t *testing.T) {
	x := read(t, "9223372036854775807 + i * 9223372036854775807 = 0")
	typeIs(t, form(), x, api.TBool, api.OK)
	if _, e := eval.Eval(form(), row(), x); e != api.Overflow {
		t.Errorf("P402: %v", e)
	}
}
