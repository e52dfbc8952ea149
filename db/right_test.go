package db_test

import (
	"fmt"
	"math"
	"strings"
	"testing"

	"federation/api"
	"federation/db"
	"federation/sql"
)

func rightIs(t *testing.T, x api.Table, want bool, why string) {
	t.Helper()
	if got := db.Right(x); got != want {
		t.Errorf("P501: Right of %s: %v", why, got)
	}
}

// wide is a Right table with something of everything.
func wide(t *testing.T) api.Table {
	t.Helper()
	return form(t, "create table wide (a int not null, b text, c dec, d bool not null, e bytes, f int, primary key (a), unique (b), unique (a), check (a < 5 or b is null), foreign key (a) references wide, foreign key (f) references other)")
}

func TestRightForms(t *testing.T) {
	rightIs(t, wide(t), true, "wide")
	for _, s := range []string{
		"(a bool not null, primary key (a))",
		"(a int not null, primary key (a))",
		"(a dec not null, primary key (a))",
		"(a text not null, primary key (a))",
		"(a bytes not null, primary key (a))",
		"(x int, y bytes not null, primary key (y))",
		"(a int, b int not null, c int, d int, e int, f int not null, primary key (f))",
		"(t int not null, primary key (t), unique (t))",
		"(a int not null, b int, c int, d int, e int, f int, primary key (a), unique (f), unique (e), unique (d), unique (c), unique (b), unique (a))",
		"(a int not null, primary key (a), check (true))",
		"(a int not null, primary key (a), check (null))",
		"(a int not null, primary key (a), check (null + null))",
		"(a int not null, b bool, primary key (a), check (b))",
		"(a int not null, primary key (a), check (not (a = null)))",
		"(a int not null, primary key (a), foreign key (a) references t, foreign key (a) references t, foreign key (a) references t, foreign key (a) references t, foreign key (a) references t, foreign key (a) references nowhere)",
		"(abcdefghijkl int not null, a_1 int, primary key (abcdefghijkl))",
		"(a int not null, abcdefghijkl bool, primary key (a), unique (abcdefghijkl), check (a < 5 or abcdefghijkl), foreign key (abcdefghijkl) references lkjihgfedcba)",
	} {
		rightIs(t, form(t, "create table t "+s), true, s)
	}
	for _, s := range []string{
		"(a int, primary key (a))",
		"(a int not null, b int, primary key (b))",
		"(a int not null, a int not null, primary key (a))",
		"(a int not null, b text, c int, d int, e int, b text, primary key (a))",
		"(a int not null, b int, c int, d int, e int, f int, g int, primary key (a))",
		"(a int not null, b int, primary key (a), unique (b), unique (b))",
		"(a int not null, b int, primary key (a), unique (a), unique (b), unique (a))",
		"(a int not null, primary key (a), check (a))",
		"(a int not null, primary key (a), check (5))",
		"(a int not null, primary key (a), check ('true'))",
		"(a int not null, primary key (a), check (a + null))",
		"(a int not null, primary key (a), check (b = 1))",
		"(a int not null, primary key (a), check (a = 'x'))",
		"(a int not null, primary key (a), check (a < 5 and a + 1.0 < 5.0))",
		"(a int not null, primary key (a), foreign key (a) references t, foreign key (a) references t, foreign key (a) references t, foreign key (a) references t, foreign key (a) references t, foreign key (a) references t, foreign key (a) references t)",
	} {
		rightIs(t, form(t, "create table t "+s), false, s)
	}
}

func TestRightNames(t *testing.T) {
	words := strings.Fields(keyWords)
	if len(words) != 33 {
		t.Fatalf("%d key words", len(words))
	}
	right := []string{"a", "z9", "a_", "abcdefghijkl", "selects", "x", "tables", "a0_0a", "is_", "an", "in"}
	wrong := append(words, "", "A", "aB", "_a", "9", "9a", "a b", " a", "a ", "a-b", "a.b", "abcdefghijklm", "a\n", "\na", "é", "a\x00", "'a'", "a,b", "x'", "a)", "*", "-a", "a--", strings.Repeat("a", 1000))
	put := []func(x *api.Table, s string){
		func(x *api.Table, s string) { x.Name = s },
		func(x *api.Table, s string) { x.Cols[1].Name = s },
		func(x *api.Table, s string) { x.Cols[4].Name = s },
		func(x *api.Table, s string) { x.Links[1].Table = s },
	}
	for i, f := range put {
		for _, s := range right {
			if i == 1 || i == 2 {
				s = s[:min(len(s), 11)] + "8"
			}
			x := wide(t)
			f(&x, s)
			if i == 1 {
				x.Check = api.Expr{}
			}
			rightIs(t, x, true, fmt.Sprintf("name %d: %q", i, s))
		}
		for _, s := range wrong {
			x := wide(t)
			x.Check = api.Expr{}
			f(&x, s)
			rightIs(t, x, false, fmt.Sprintf("name %d: %q", i, s))
		}
	}
}

// What a text would say in other words is not that.
func TestRightIsReadAsItWas(t *testing.T) {
	for i, f := range []func(x *api.Table){
		func(x *api.Table) { x.Name = "wide (z int, b" },
		func(x *api.Table) { x.Cols[0].Name = "z int, a" },
		func(x *api.Table) { x.Cols[1].Name = "b text, g" },
		func(x *api.Table) { x.Cols[1] = api.Col{Name: "b text", Type: 0} },
		func(x *api.Table) { x.Cols[1] = api.Col{Name: "b text not null", Type: 0} },
		func(x *api.Table) { x.Links[0].Table = "wide, foreign key (a) references wide" },
		func(x *api.Table) { x.Links[1].Table = "other))" },
		func(x *api.Table) { x.Check = api.Expr{Name: "a"} },
		func(x *api.Table) { x.Check = api.Expr{V: num(1)} },
		func(x *api.Table) { x.Check = api.Expr{V: api.Value{N: 1}} },
		func(x *api.Table) { x.Check = api.Expr{L: []api.Expr{{}}} },
		func(x *api.Table) { x.Check.Name = "a" },
		func(x *api.Table) { x.Check.V = flag(1) },
		func(x *api.Table) { x.Check.L = append(x.Check.L, lit(flag(1))) },
		func(x *api.Table) { x.Check.L = x.Check.L[:1] },
		func(x *api.Table) { x.Check.L[0].L[0].Name = "z" },
		func(x *api.Table) { x.Check.L[0].L[0].Name = "a < 5 or a" },
		func(x *api.Table) { x.Check.L[0].L[0].V.S = "a" },
		func(x *api.Table) { x.Check.L[0].L[1].Name = "a" },
		func(x *api.Table) { x.Check.L[0].L[1].V.S = "5" },
		func(x *api.Table) { x.Check.L[0].L[1].V.Scale = 1 },
		func(x *api.Table) { x.Check.L[0].L[1].L = []api.Expr{{}} },
		func(x *api.Table) { x.Check = of(api.XNot) },
		func(x *api.Table) { x.Check = of(api.XAnd, lit(flag(1))) },
		func(x *api.Table) { x.Check = of(api.XNot, lit(flag(1)), lit(flag(1))) },
		func(x *api.Table) { x.Check = of(api.XOr, lit(flag(1)), api.Expr{}) },
		func(x *api.Table) { x.Check = of(api.XIsNull, api.Expr{}) },
		func(x *api.Table) { x.Check = lit(flag(2)) },
		func(x *api.Table) { x.Check = lit(api.Value{Kind: 6}) },
		func(x *api.Table) { x.Check = lit(api.Value{Kind: api.TBool, S: "a"}) },
		func(x *api.Table) { x.Check = of(api.XEq, lit(text(strings.Repeat("a", 41))), lit(text("a"))) },
		func(x *api.Table) { x.Check = of(api.XEq, lit(dec(10, 1)), lit(dec(1, 0))) },
		func(x *api.Table) { x.Check = of(15, lit(flag(1)), lit(flag(1))) },
		func(x *api.Table) { x.Check = of(-1) },
		func(x *api.Table) { x.Check = of(99, lit(flag(1))) },
	} {
		x := wide(t)
		f(&x)
		rightIs(t, x, false, fmt.Sprintf("change %d: %v", i, x))
	}
}

func TestRightNumbers(t *testing.T) {
	for _, n := range []int{math.MinInt, -2, -1, 6, 7, 100, math.MaxInt} {
		x := wide(t)
		x.Key = n
		rightIs(t, x, false, fmt.Sprintf("key %d", n))
		x = wide(t)
		x.Unique = []int{1, n}
		rightIs(t, x, false, fmt.Sprintf("unique %d", n))
		x = wide(t)
		x.Links[1].Col = n
		rightIs(t, x, false, fmt.Sprintf("link %d", n))
	}
	for _, n := range []int{math.MinInt, -1, 0, 6, 7, math.MaxInt} {
		x := wide(t)
		x.Cols[5].Type = n
		rightIs(t, x, false, fmt.Sprintf("type %d", n))
	}
	for i := range 6 {
		x := wide(t)
		x.Unique, x.Links[1].Col = []int{i}, i
		rightIs(t, x, true, fmt.Sprintf("place %d", i))
		x.Key = i
		rightIs(t, x, i == 0 || i == 3, fmt.Sprintf("key %d", i))
		x.Cols[i].NotNull = true
		rightIs(t, x, true, fmt.Sprintf("key %d, not null", i))
	}
	x := wide(t)
	x.Cols[0].NotNull = false
	rightIs(t, x, false, "a key that may be null")
	x = wide(t)
	x.Unique = []int{0, 1, 2, 3, 4, 5}
	rightIs(t, x, true, "six unique")
	x.Unique = append(x.Unique, 0)
	rightIs(t, x, false, "seven unique")
	x = wide(t)
	x.Cols, x.Unique, x.Links, x.Check = nil, nil, nil, api.Expr{}
	rightIs(t, x, false, "no columns")
	rightIs(t, api.Table{}, false, "nothing")
}

// No list and an empty one are the same (P2).
func TestRightLists(t *testing.T) {
	x := form(t, "create table t (a int not null, b bool, primary key (a), check (b))")
	x.Unique, x.Links, x.Check.L = []int{}, []api.Link{}, []api.Expr{}
	rightIs(t, x, true, "empty lists")
	x.Unique, x.Links, x.Check.L = nil, nil, nil
	rightIs(t, x, true, "no lists")
	x.Check = api.Expr{L: []api.Expr{}}
	rightIs(t, x, true, "no Check with an empty list")
}

// A Check that is read may, written, be deeper than may be: others are put in ( ).
func TestRightDeep(t *testing.T) {
	for deep := range 20 {
		chain := "create table t (a int not null, primary key (a), check (a" + strings.Repeat(" + a", deep) + " = 1))"
		rightIs(t, form(t, chain), deep <= 12, chain)
		x := lit(flag(1))
		for range deep {
			x = of(api.XNot, x)
		}
		rightIs(t, api.Table{Name: "t", Cols: []api.Col{{Name: "a", Type: api.TInt, NotNull: true}}, Check: x}, deep <= 6, fmt.Sprintf("%d nots", deep))
	}
}

// long is a table whose text, written by Text, has n bytes.
func long(t *testing.T, n int) api.Table {
	t.Helper()
	x := form(t, "create table t (a int not null, primary key (a))")
	text := func() int { return len(sql.Text(api.Stmt{Kind: api.SCreate, T: x})) }
	// A tree, so that it is not deep: of 64 leaves, each of which compares two texts, and holds.
	var leaves []api.Expr
	for range 64 {
		leaves = append(leaves, of(api.XLe, lit(text40(0)), lit(text40(0))))
	}
	put := func() { x.Check = joined(leaves) }
	for i := 0; ; i++ {
		put()
		if text() >= n {
			break
		}
		side := &leaves[i/2%64].L[1-i%2]
		*side = lit(text40(min(40, len(side.V.S)+n-text())))
	}
	if text() != n {
		t.Fatalf("%d bytes, not %d", text(), n)
	}
	return x
}

func text40(n int) api.Value { return text(strings.Repeat("a", n)) }

// joined is a flat tree over leaves.
func joined(l []api.Expr) api.Expr {
	if len(l) == 1 {
		return l[0]
	}
	return of(api.XAnd, joined(l[:len(l)/2]), joined(l[len(l)/2:]))
}

func TestRightLong(t *testing.T) {
	for _, n := range []int{3900, 3999, 4000} {
		rightIs(t, long(t, n), true, fmt.Sprintf("%d bytes", n))
	}
	for _, n := range []int{4001, 4002, 4100} {
		rightIs(t, long(t, n), false, fmt.Sprintf("%d bytes", n))
	}
}

// An expression whose parts lie in one memory may be far longer than that; Right of it ends all the same (P1).
func TestRightOfSharedParts(t *testing.T) {
	for _, x := range []api.Expr{lit(flag(1)), {}, col("a"), of(api.XNot), of(77)} {
		for range 200 {
			x = of(api.XAnd, x, x)
		}
		rightIs(t, api.Table{Name: "t", Cols: []api.Col{{Name: "a", Type: api.TBool, NotNull: true}}, Check: x}, false, "shared parts")
	}
	name := col(strings.Repeat("a", 1<<20))
	x := of(api.XAnd, name, name)
	for range 10 {
		x = of(api.XAnd, x, x)
	}
	rightIs(t, api.Table{Name: "t", Cols: []api.Col{{Name: "a", Type: api.TBool, NotNull: true}}, Check: x}, false, "shared names")
	x = lit(flag(1))
	for range 1000 {
		x = of(api.XNot, x)
	}
	rightIs(t, api.Table{Name: "t", Cols: []api.Col{{Name: "a", Type: api.TBool, NotNull: true}}, Check: x}, false, "deep parts")
}

// Any change at all of a table that is Right is told as the law tells.
func TestRightByTheLaw(t *testing.T) {
	t.Parallel()
	d := &die{1}
	tally := [2]int{}
	for range 20000 {
		x := wide(t)
		for range 1 + d.of(3) {
			d.bend(&x)
		}
		want := lawRight(x)
		rightIs(t, x, want, fmt.Sprint(x))
		if want {
			tally[1]++
		} else {
			tally[0]++
		}
	}
	if tally[0] < 2000 || tally[1] < 2000 {
		t.Errorf("too few are thrown: %v", tally)
	}
}

// bend changes a table somewhere.
func (d *die) bend(x *api.Table) {
	name := one(d, "a", "b", "c", "d", "e", "f", "g", "t", "wide", "null", "", "A", "abcdefghijkl", "abcdefghijklm", "a b")
	switch d.of(12) {
	case 0:
		x.Name = name
	case 1:
		if len(x.Cols) > 0 {
			x.Cols[d.of(len(x.Cols))].Name = name
		}
	case 2:
		if len(x.Cols) > 0 {
			x.Cols[d.of(len(x.Cols))].Type = d.of(8) - 1
		}
	case 3:
		if len(x.Cols) > 0 {
			c := &x.Cols[d.of(len(x.Cols))]
			c.NotNull = !c.NotNull
		}
	case 4:
		x.Key = d.of(9) - 1
	case 5:
		x.Unique = append(x.Unique, d.of(9)-1)
	case 6:
		x.Unique = nil
	case 7:
		x.Links = append(x.Links, api.Link{Col: d.of(9) - 1, Table: name})
	case 8:
		x.Links = x.Links[:d.of(len(x.Links)+1)]
	case 9:
		x.Check = one(d, api.Expr{}, lit(flag(1)), lit(num(1)), col(name), of(api.XNot, x.Check), of(api.XIsNull, col(name)), of(api.XAnd, x.Check, x.Check))
	case 10:
		x.Cols = x.Cols[:d.of(len(x.Cols)+1)]
	case 11:
		x.Cols = append(x.Cols[:len(x.Cols):len(x.Cols)], api.Col{Name: name, Type: 1 + d.of(5), NotNull: d.of(2) == 0})
	}
}
