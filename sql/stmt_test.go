package sql_test

import (
	"reflect"
	"strings"
	"testing"
	"unsafe"

	"federation/api"
	"federation/sql"
)

// told are statements and their texts.
func told() map[string]api.Stmt {
	a, b := col("a"), col("b")
	cols := []api.Col{{Name: "a", Type: api.TInt}, {Name: "b", Type: api.TText, NotNull: true}}
	table := func(t api.Table) api.Stmt { return api.Stmt{Kind: api.SCreate, T: t} }
	return map[string]api.Stmt{
		"create table t (a int not null, primary key (a))": table(api.Table{Name: "t", Cols: []api.Col{{Name: "a", Type: api.TInt, NotNull: true}}}),
		"create table t (a bool, b int, c dec, d text, e bytes not null, primary key (c))": table(api.Table{Name: "t", Cols: []api.Col{
			{Name: "a", Type: api.TBool}, {Name: "b", Type: api.TInt}, {Name: "c", Type: api.TDec}, {Name: "d", Type: api.TText}, {Name: "e", Type: api.TBytes, NotNull: true}}, Key: 2}),
		"create table t (a int, b text not null, primary key (b), unique (b), unique (a), unique (b), check ((a < 5) or (b is null)), foreign key (b) references u, foreign key (a) references t)": table(api.Table{Name: "t", Cols: cols, Key: 1, Unique: []int{1, 0, 1},
			Check: of(api.XOr, of(api.XLt, a, lit(num(5))), of(api.XIsNull, b)), Links: []api.Link{{Col: 1, Table: "u"}, {Col: 0, Table: "t"}}}),
		"create table t (a int, b text not null, primary key (a), unique (b))":                                 table(api.Table{Name: "t", Cols: cols, Unique: []int{1}}),
		"create table t (a int, b text not null, primary key (a), check (c))":                                  table(api.Table{Name: "t", Cols: cols, Check: col("c")}),
		"create table t (a int, b text not null, primary key (a), foreign key (b) references t)":               table(api.Table{Name: "t", Cols: cols, Links: []api.Link{{Col: 1, Table: "t"}}}),
		"create table t (a int, b text not null, primary key (a), check (null), foreign key (a) references u)": table(api.Table{Name: "t", Cols: cols, Check: lit(api.Value{}), Links: []api.Link{{Table: "u"}}}),
		"create table t (a int, b text not null, primary key (a), unique (a), foreign key (a) references u)":   table(api.Table{Name: "t", Cols: cols, Unique: []int{0}, Links: []api.Link{{Table: "u"}}}),
		"create table t (a int, a text, primary key (a), unique (a))":                                          table(api.Table{Name: "t", Cols: []api.Col{{Name: "a", Type: api.TInt}, {Name: "a", Type: api.TText}}, Unique: []int{0}}),

		"drop table t": {Kind: api.SDrop, Name: "t"},
		"alter table t add foreign key (a) references u": {Kind: api.SLink, Name: "t", Col: "a", To: "u"},
		"insert into t values (1)":                       {Kind: api.SInsert, Name: "t", Row: []api.Value{num(1)}},
		"insert into t values (1, -2.5, 'a, (b', x'ff', null, true, false)": {Kind: api.SInsert, Name: "t", Row: []api.Value{
			num(1), dec(-25, 1), text("a, (b"), raw("\xff"), {}, flag(1), flag(0)}},
		"insert into t values (null, '(', ')', ',')": {Kind: api.SInsert, Name: "t", Row: []api.Value{{}, text("("), text(")"), text(",")}},

		"update t set a = a + 1":                  {Kind: api.SUpdate, Name: "t", Col: "a", E: of(api.XAdd, a, lit(num(1)))},
		"update t set a = a = b where a = b":      {Kind: api.SUpdate, Name: "t", Col: "a", E: of(api.XEq, a, b), Where: of(api.XEq, a, b)},
		"update t set a = null where not a":       {Kind: api.SUpdate, Name: "t", Col: "a", E: lit(api.Value{}), Where: of(api.XNot, a)},
		"update t set a = -(a) where b is null":   {Kind: api.SUpdate, Name: "t", Col: "a", E: of(api.XNeg, a), Where: of(api.XIsNull, b)},
		"delete from t":                           {Kind: api.SDelete, Name: "t"},
		"delete from t where a":                   {Kind: api.SDelete, Name: "t", Where: a},
		"select * from t":                         {Kind: api.SSelect, Name: "t"},
		"select * from t where (a or b) = false":  {Kind: api.SSelect, Name: "t", Where: of(api.XEq, of(api.XOr, a, b), lit(flag(0)))},
		"select count(*) from t":                  {Kind: api.SCount, Name: "t"},
		"select count(*) from t where (-(1)) < a": {Kind: api.SCount, Name: "t", Where: of(api.XLt, of(api.XNeg, lit(num(1))), a)},
	}
}

func TestStatements(t *testing.T) {
	for s, want := range told() {
		if got := sql.Text(want); got != s {
			t.Errorf("P303: Text of %v: %s, not %s", want, got, s)
		}
		isRead(t, "P304", s, want)
		isRead(t, "P303", "\n "+s+" \n", want)
		if !strings.Contains(s, "'") {
			isRead(t, "P303", strings.ReplaceAll(s, " ", " \n "), want)
		}
	}
	for s, want := range map[string]api.Stmt{
		"create table t(a int,primary key(a),unique(a),check(a),foreign key(a)references u)": {Kind: api.SCreate, T: api.Table{
			Name: "t", Cols: []api.Col{{Name: "a", Type: api.TInt}}, Unique: []int{0}, Check: col("a"), Links: []api.Link{{Table: "u"}}}},
		"insert into t values(1,'a',x'00')":     {Kind: api.SInsert, Name: "t", Row: []api.Value{num(1), text("a"), raw("\x00")}},
		"insert into t values ( - 1 , -\n2.0 )": {Kind: api.SInsert, Name: "t", Row: []api.Value{num(-1), dec(-2, 0)}},
		"update t set a=(a=b)where a":           {Kind: api.SUpdate, Name: "t", Col: "a", E: of(api.XEq, col("a"), col("b")), Where: col("a")},
		"select*from t where(a)":                {Kind: api.SSelect, Name: "t", Where: col("a")},
		"select count ( * ) from t":             {Kind: api.SCount, Name: "t"},
		"select\ncount(*)from t":                {Kind: api.SCount, Name: "t"},
	} {
		isRead(t, "P303", s, want)
	}
}

// Each sign of a statement in its turn: where it lacks, where another one stands in its place.
func TestPlaces(t *testing.T) {
	for s := range told() {
		if strings.Contains(s, "'") {
			continue // it is not parted at blanks
		}
		for i := 0; i < len(s); i++ {
			begins := i == 0 || strings.ContainsAny(s[i-1:i], " (-") || strings.ContainsAny(s[i:i+1], "(),")
			inner := strings.Contains(s[:i], "values (") && i > 0 && s[i-1] == '-' // a `-` that no number stands behind is refused itself
			if s[i] == ' ' || !begins || inner {
				continue
			}
			isRefused(t, "P303", s[:i]+"\x00"+s[i:], i, api.BadText)
			isRefused(t, "P303", s[:i]+"; "+s[i:], i, api.BadText)
			isRefused(t, "P303", s[:i]+" thirteenlette "+s[i:], i+1, api.Limit)
			isRefused(t, "P303", s[:i]+" 'a", i+1, api.BadText)
			left := strings.TrimRight(s[:i], " ")
			if _, _, e := sql.Parse(left); e != api.OK { // something off its end may lack
				isRefused(t, "P303", left, len(left), api.BadText)
				isRefused(t, "P303", left+" \n", len(left)+2, api.BadText)
			}
		}
		isRefused(t, "P303", s+";", len(s), api.BadText)
		isRefused(t, "P303", s+" "+s, len(s)+1, api.BadText)
		isRefused(t, "P303", s+" thirteenlette", len(s)+1, api.Limit)
		isRefused(t, "P303", s+" \x00", len(s)+1, api.BadText)
	}
}

func TestStatementsAreRefused(t *testing.T) {
	for s, at := range map[string]int{
		"": 0, "  ": 2, " \n": 2, "t": 0, ";": 0, "'a'": 0, "1": 0, "(": 0, "table": 0, "begin": 0, "x''": 0, "-": 0,
		"create": 6, "create t": 7, "create table": 12, "create table create": 13, "create table t": 14, "create table t a": 15, "create table 't'": 13, "create table 1": 13,
		"create table t (": 16, "create table t ()": 16, "create table t (a": 17, "create table t (a, b int": 17, "create table t (a b": 18, "create table t (a null": 18, "create table t (a table": 18,
		"create table t (a int": 21, "create table t (a int)": 21, "create table t (a int b": 22, "create table t (a int null": 22, "create table t (a int not": 25, "create table t (a int not,": 25, "create table t (a int not not": 26,
		"create table t (a int not null not": 31, "create table t (primary key (a))": 16, "create table t (unique (a))": 16, "create table t (a int,": 22, "create table t (a int,)": 22, "create table t (a int,,": 22,
		"create table t (a int, unique (a)": 23, "create table t (a int, check (a)": 23, "create table t (a int, foreign key": 23, "create table t (a int, key": 23, "create table t (a int primary key": 22, "create table t (a int primary primary": 22,
		"create table t (a int, primary (": 31, "create table t (a int, primary key a": 35, "create table t (a int, primary key ()": 36, "create table t (a int, primary key (1)": 36, "create table t (a int, primary key (b)": 36, "create table t (a int, primary key (t)": 36, "create table t (a int, primary key (int)": 36, "create table t (a int, primary key (aa)": 36, "create table t (a int, primary key (a, a)": 37, "create table t (a int, primary key ((a)": 36,
		"create table t (a int, primary key (a)": 38, "create table t (a int, primary key (a) unique": 39, "create table t (a int, primary key (a),": 39, "create table t (a int, primary key (a),)": 39, "create table t (a int, primary key (a), b int": 40, "create table t (a int, primary key (a), primary": 40, "create table t (a int, primary key (a), a": 40,
		"create table t (a int, primary key (a)) x": 40, "create table t (a int, primary key (a)),": 39, "create table t (a int, primary key (a)))": 39,
		"create table t (a int, primary key (a), unique a": 47, "create table t (a int, primary key (a), unique (b": 48, "create table t (a int, primary key (a), unique ()": 48, "create table t (a int, primary key (a), unique (a, a": 49,
		"create table t (a int, primary key (a), check a": 46, "create table t (a int, primary key (a), check ()": 47, "create table t (a int, primary key (a), check (a": 48, "create table t (a int, primary key (a), check (a,": 48,
		"create table t (a int, primary key (a), check (a), unique": 51, "create table t (a int, primary key (a), check (a), check": 51, "create table t (a int, primary key (a), check (null), check": 54,
		"create table t (a int, primary key (a), foreign (": 48, "create table t (a int, primary key (a), foreign key a": 52, "create table t (a int, primary key (a), foreign key (b": 53, "create table t (a int, primary key (a), foreign key (a) u": 56, "create table t (a int, primary key (a), foreign key (a) references select": 67, "create table t (a int, primary key (a), foreign key (a) references t (": 69,
		"create table t (a int, primary key (a), foreign key (a) references t, unique": 70, "create table t (a int, primary key (a), foreign key (a) references t, check": 70, "create table t (a int, primary key (a), foreign key (a) references t, b": 70,

		"drop": 4, "drop t": 5, "drop table": 10, "drop table t, u": 12, "drop table t u": 13, "drop table t drop": 13, "drop table (t)": 11, "drop table 'a'": 11, "drop table null": 11, "drop table -a": 11,
		"alter t": 6, "alter table add": 12, "alter table t foreign": 14, "alter table t add key": 18, "alter table t add foreign (": 26, "alter table t add foreign key a": 30, "alter table t add foreign key ()": 31, "alter table t add foreign key (a, b": 32, "alter table t add foreign key (a) u": 34, "alter table t add foreign key (a) references": 44, "alter table t add foreign key (a) references u (": 47, "alter table t drop": 14,
		"insert t": 7, "insert into values": 12, "insert into t (": 14, "insert into t values 1": 21, "insert into t values ()": 22, "insert into t values (a": 22, "insert into t values ((1": 22, "insert into t values (1": 23, "insert into t values (1,)": 24, "insert into t values (1,,": 24, "insert into t values (,": 22, "insert into t values (1 + 1": 24, "insert into t values (1 2": 24, "insert into t values (not": 22, "insert into t values (1), (": 24, "insert into t values (1) where": 25, "insert into t values (+1": 22, "insert into t values (int": 22,
		"update set": 7, "update t a": 9, "update t set = 1": 13, "update t set a": 14, "update t set a 1": 15, "update t set a < 1": 15, "update t set a <= 1": 15, "update t set a = where": 17, "update t set a = 1 a": 19, "update t set a = 1, b": 18, "update t set a = b = c = d": 23, "update t set a = 1 where": 24, "update t set a = 1 where a where": 27, "update t set 'a'": 13, "update t set a = 1 from": 19,
		"delete t": 7, "delete * from": 7, "delete from": 11, "delete from t where": 19, "delete from t a": 14, "delete from t, u": 13, "delete from t where a, b": 21, "delete from where": 12, "delete from t where where": 20, "delete from t where a where b": 22,
		"select a from": 7, "select from": 7, "select * t": 9, "select * from": 13, "select * from where": 14, "select *, * from": 8, "select * from t where": 21, "select * from t order": 16, "select ** from": 8, "select (*) from": 7,
		"select count": 12, "select count *": 13, "select count(": 13, "select count(a": 13, "select count()": 13, "select count(*": 14, "select count(*, ": 14, "select count(*) t": 16, "select count(*)from": 19, "select count(*), * from": 15, "select count from": 13, "select count(* from": 15,
	} {
		isRefused(t, "P303", s, at, api.BadText)
	}
	for s, at := range map[string]int{
		"thirteenlette": 0, "create thirteenlette": 7, "drop table thirteenlette": 11, "create table t (a int, primary key (thirteenlette": 36, "create table t (thirteenlette": 16, "create table t (a thirteenlette": 18, "select count(thirteenlette": 13, "update t set thirteenlette": 13, "alter table t add foreign key (a) references thirteenlette": 45, "insert into t values (thirteenlette": 22, "drop table t thirteenlette": 13, "select * from t where a thirteenlette": 24,
		"insert into t values (1, 9223372036854775808": 25, "insert into t values (1 9223372036854775809": 24,
	} {
		isRefused(t, "P303", s, at, api.Limit)
	}
}

func TestLengths(t *testing.T) {
	drop := api.Stmt{Kind: api.SDrop, Name: "t"}
	isRead(t, "P303", strings.Repeat(" ", 3988)+"drop table t", drop)
	isRead(t, "P303", "drop table t"+strings.Repeat("\n", 3988), drop)
	isRefused(t, "P303", strings.Repeat(" ", 3989)+"drop table t", 0, api.Limit)
	isRefused(t, "P303", "drop table t"+strings.Repeat("\n", 3989), 0, api.Limit)
	isRefused(t, "P303", "drop\x00"+strings.Repeat("\x00", 3996), 0, api.Limit)
	isRefused(t, "P303", "drop\x00"+strings.Repeat("\x00", 3995), 4, api.BadText)
	isRefused(t, "P303", strings.Repeat(" ", 4000), 4000, api.BadText)
	isRefused(t, "P303", strings.Repeat(" ", 4001), 0, api.Limit)
	isRefused(t, "P303", strings.Repeat("a", 4000), 0, api.Limit)
}

func TestParseAll(t *testing.T) {
	a, b := api.Stmt{Kind: api.SDrop, Name: "a"}, api.Stmt{Kind: api.SDelete, Name: "b", Where: col("x")}
	for s, want := range map[string][]api.Stmt{
		"": nil, " ": nil, "\n \n": nil, "drop table a;": {a}, " drop table a ; \n": {a}, "drop table a;delete from b where x;": {a, b}, "delete from b where x;\ndrop table a;\ndrop table a;\n": {b, a, a},
		strings.Repeat(" ", 100000): nil, strings.Repeat("\n", 99987) + "drop table a;": {a}, "drop table a" + strings.Repeat(" ", 99987) + ";": {a},
	} {
		got, at, e := sql.ParseAll(s)
		if e != api.OK || at != 0 || len(got) != len(want) || len(got) > 0 && !reflect.DeepEqual(got, want) {
			t.Errorf("P303: ParseAll of %.80q: %v, %d, %v", s, got, at, e)
		}
	}
	for s, want := range map[string]int{
		";": 0, " ;": 1, "drop table a": 12, "drop table a ": 13, "drop table a;;": 13, "drop table a; ;": 14, "drop table a; drop b;": 19, "drop table a drop table b;": 13, "drop table a; drop table b": 26,
		"drop table a; x": 14, "drop; drop table a;": 4, "drop table a; \x00": 14, "drop table a, b;": 12, "delete from t where (a;": 22, "delete from t where a = ;": 24, "drop table a; drop table b; create table t (a int, primary key (b));": 64,
		strings.Repeat("drop table a;", 7692) + "drop": 100000, strings.Repeat(" ", 99999) + "\x00": 99999,
	} {
		if got, at, e := sql.ParseAll(s); e != api.BadText || at != want || len(got) != 0 {
			t.Errorf("P303: ParseAll of %.80q: %v, %d, %v, not %d", s, got, at, e, want)
		}
	}
	for s, want := range map[string]int{
		"drop table a; thirteenlette": 14, "drop table a thirteenlette;": 13, "thirteenlette": 0, "drop table a; delete from t where 9223372036854775808;": 34,
		strings.Repeat(" ", 100001): 0, strings.Repeat("drop table a;", 7693): 0, strings.Repeat(" ", 99988) + "drop table a;": 0, "\x00" + strings.Repeat(" ", 100000): 0,
	} {
		if got, at, e := sql.ParseAll(s); e != api.Limit || at != want || len(got) != 0 {
			t.Errorf("P303: ParseAll of %.80q: %v, %d, %v, not %d", s, got, at, e, want)
		}
	}
	if l, at, e := sql.ParseAll(strings.Repeat("drop table a;", 7692)); len(l) != 7692 || at != 0 || e != api.OK {
		t.Errorf("P303: ParseAll of many: %d, %d, %v", len(l), at, e)
	}
	// One statement of them may be longer than Parse takes.
	long := "delete from t where a" + strings.Repeat("+a", 40000) + ";"
	if l, at, e := sql.ParseAll(long); len(l) != 1 || at != 0 || e != api.OK {
		t.Errorf("P303: ParseAll of a long one: %d, %d, %v", len(l), at, e)
	}
}

// What may not be handed in: the calls end and do not panic (P1), and answer the same again (P3).
func TestWrongStatements(t *testing.T) {
	for kind := -2; kind < 12; kind++ {
		for _, place := range []int{-1, 0, 1, 2, 1 << 62, -1 << 63} {
			for _, cols := range [][]api.Col{nil, {{}}, {{Name: "a", Type: place}, {Type: -1}}} {
				s := api.Stmt{Kind: kind, T: api.Table{Cols: cols, Key: place, Unique: []int{place, 0}, Links: []api.Link{{Col: place}, {}}}, Row: []api.Value{dec(1, place), {Kind: place}}}
				if sql.Text(s) != sql.Text(s) {
					t.Errorf("P3: Text of %v", s)
				}
			}
		}
	}
}

// P2: what is handed in stays as it is, its spare room too.
func TestTextChangesNothing(t *testing.T) {
	for s := range told() {
		x, _, _ := sql.Parse(s)
		y, _, _ := sql.Parse(s)
		room := append(x.T.Cols, api.Col{Name: "room"})
		x.T.Cols = room[:len(x.T.Cols)]
		values := append(x.Row, num(99))
		x.Row = values[:len(x.Row)]
		sql.Text(x)
		if room[len(room)-1].Name != "room" || values[len(values)-1] != num(99) || sql.Text(x) != sql.Text(y) {
			t.Errorf("P2: %s", s)
		}
	}
}

// P2, P7: what is told shares nothing with what is told again, nor one list with another.
func TestAnswersAreNew(t *testing.T) {
	for s := range told() {
		l, _, _ := sql.ParseAll(s + ";" + s + ";")
		scribble(l[0])
		if sql.Text(l[1]) != s {
			t.Errorf("P2: %s: %s", s, sql.Text(l[1]))
		}
		isRead(t, "P2", s, told()[s])
	}
}

// P2: nor does a name or a value share memory with the text that it was read from.
func TestTextIsNotKept(t *testing.T) {
	s := "create table t (a int, primary key (a), check (b = 'c')); insert into u values ('d', x'00'); alter table v add foreign key (e) references f;"
	l, _, _ := sql.ParseAll(s)
	if len(l) != 3 {
		t.Fatal(l)
	}
	check := l[0].T.Check
	for _, part := range []string{l[0].T.Name, l[0].T.Cols[0].Name, check.L[0].Name, check.L[1].V.S, l[1].Name, l[1].Row[0].S, l[1].Row[1].S, l[2].Name, l[2].Col, l[2].To} {
		at, from := uintptr(unsafe.Pointer(unsafe.StringData(part))), uintptr(unsafe.Pointer(unsafe.StringData(s)))
		if at >= from && at < from+uintptr(len(s)) {
			t.Errorf("P2: %q is a piece of the text", part)
		}
	}
}

// scribble changes all that hangs on a statement.
func scribble(s api.Stmt) {
	for i := range s.T.Cols {
		s.T.Cols[i] = api.Col{Name: "z"}
	}
	for i := range s.T.Unique {
		s.T.Unique[i] = 9
	}
	for i := range s.T.Links {
		s.T.Links[i] = api.Link{Table: "z"}
	}
	for i := range s.Row {
		s.Row[i] = num(9)
	}
	for _, x := range []api.Expr{s.T.Check, s.E, s.Where} {
		for i := range x.L {
			x.L[i] = col("z")
		}
	}
	_ = append(s.T.Cols, api.Col{Name: "room"})
	_ = append(s.Row, num(99))
}
