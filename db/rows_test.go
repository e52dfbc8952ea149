package db_test

import (
	"fmt"
	"strings"
	"testing"

	"federation/api"
)

const most = "9223372036854775807"

func TestInsert(t *testing.T) {
	d := made(t, "create table t (b text, a int not null, c dec not null, d bool, e bytes, primary key (a), unique (b), unique (e), check (c < 10.0))")
	d = plays(t, d,
		"insert into t values ('x', 5, 1.5, true, x'00')|ok 1",
		"insert into t values (null, -5, 1.5, null, null)|ok 1",
		"insert into t values (null, 0, 1.5, false, null)|ok 1",
		"insert into t values ('', 9223372036854775807, -99.0, true, x'')|ok 1",
		"insert into t values ('X', -9223372036854775808, 9.999999, true, x'ff')|ok 1",
	)
	holds(t, d, "t", "('X', -9223372036854775808, 9.999999, true, x'ff')(null, -5, 1.5, null, null)(null, 0, 1.5, false, null)('x', 5, 1.5, true, x'00')('', 9223372036854775807, -99.0, true, x'')")
	plays(t, d,
		"insert into u values ('y', 1, 1.0, true, null)|table 0",
		"insert into t values ('y')|type 0", "insert into t values ('y', 1, 1.0, true)|type 0", "insert into t values ('y', 1, 1.0, true, null, null)|type 0",
		"insert into t values (1, 1, 1.0, true, null)|type 0", "insert into t values ('y', 1.0, 1.0, true, null)|type 0", "insert into t values ('y', 1, 1, true, null)|type 0", "insert into t values ('y', 1, 1.0, 1, null)|type 0", "insert into t values ('y', 1, 1.0, true, 'a')|type 0", "insert into t values (x'00', 1, 1.0, true, null)|type 0",
		"insert into t values ('y', null, 1.0, true, null)|null 0", "insert into t values ('y', 1, null, true, null)|null 0",
		"insert into t values ('y', 1, 10.0, true, null)|check 0",
		"insert into t values ('y', 5, 1.0, true, null)|twice 0", "insert into t values ('x', 1, 1.0, true, null)|twice 0", "insert into t values ('y', 1, 1.0, true, x'')|twice 0", "insert into t values ('', 1, 1.0, true, null)|twice 0",
		"insert into t values ('y', 1, 1.0, true, x'0000')|ok 1",
		"insert into t values (null, 6, 1.0, null, null)|ok 1",
	)
}

// A Check that is not known does not bar a row; one that has an error does.
func TestInsertChecks(t *testing.T) {
	d := made(t, "create table t (a int not null, b int, primary key (a), check (a + b < 10))")
	plays(t, d,
		"insert into t values (1, 8)|ok 1", "insert into t values (1, 9)|check 0", "insert into t values (100, null)|ok 1",
		"insert into t values (1, "+most+")|overflow 0", "insert into t values ("+most+", null)|ok 1",
	)
	for s, want := range map[string]string{"true": "ok 1", "false": "check 0", "null": "ok 1", "not null": "ok 1", "null and false": "check 0", "null or true": "ok 1", "a is null": "check 0", "a = null": "ok 1", "false and a + " + most + " = 0": "overflow 0", "true or a * 5000000000000000000 = 0": "overflow 0"} {
		d := made(t, "create table t (a int not null, primary key (a), check ("+s+"))")
		does(t, d, "insert into t values (3)", want)
	}
}

// full are tables in which every fault of an insert into t can be told: it has so many rows, of keys 101 on, and each of them u of that key, too.
func full(t *testing.T, n int) []api.Tab {
	t.Helper()
	l := []string{"create table p (k int not null, primary key (k))", "insert into p values (1)",
		"create table t (a int not null, y text not null, w bool, c int, u int, l int, primary key (a), unique (u), check (c + 1 < 10), foreign key (l) references p)"}
	for i := range n {
		l = append(l, fmt.Sprintf("insert into t values (%d, 'y', true, 1, %d, 1)", 101+i, 101+i))
	}
	return made(t, l...)
}

// Of all faults of an insert that may come together the first one is told.
func TestInsertOrder(t *testing.T) {
	t.Parallel()
	for set := range 128 {
		n := 59
		row := []string{"7", "'x'", "true", "1", "7", "1"}
		want := "ok 1"
		for i, f := range []struct {
			at    int
			to, e string
		}{
			{2, "'text'", "type"}, {1, "null", "null"}, {-1, "", "limit"}, {3, []string{"10", most}[set&1], []string{"check", "overflow"}[set&1]}, {0, "120", "twice"}, {4, "130", "twice"}, {5, "2", "reference"},
		} {
			if set>>i&1 == 0 {
				continue
			}
			if f.at < 0 {
				n = 60
			} else {
				row[f.at] = f.to
			}
			if want == "ok 1" {
				want = f.e + " 0"
			}
		}
		does(t, full(t, n), "insert into t values ("+strings.Join(row, ", ")+")", want)
		does(t, full(t, n), "insert into z values ("+strings.Join(row, ", ")+")", "table 0")
	}
	d := full(t, 60)
	plays(t, d,
		"insert into t values (null, 5, true, 99, 130, 2)|type 0", // the null stands ahead of the wrong type
		"insert into t values (null)|type 0",
		"insert into t values (null, null, null, null, null, null, null)|type 0",
		"insert into t values (7, 'x', true, "+most+", 7, 1)|limit 0",
	)
	plays(t, full(t, 59),
		"insert into t values (120, 'x', true, "+most+", 130, 2)|overflow 0",
		"insert into t values (120, 'x', true, 10, 130, 2)|check 0",
		"insert into t values (120, 'x', true, 1, 7, 2)|twice 0",
		"insert into t values (7, 'x', true, 1, 130, 2)|twice 0",
		"insert into t values (7, 'x', true, 1, 7, 2)|reference 0",
	)
}

func TestMaxRows(t *testing.T) {
	d := full(t, 59)
	d = plays(t, d, "insert into t values (1, 'x', true, 1, null, null)|ok 1", "insert into t values (2, 'x', true, 1, null, null)|limit 0", "insert into p values (2)|ok 1")
	d = plays(t, d, "update t set a = a + 1|ok 60", "update t set u = null|ok 60", "delete from t where a = 2|ok 1", "insert into t values (1, 'x', true, 1, null, null)|ok 1", "select count(*) from t|ok 60", "insert into t values (2, 'x', true, 1, null, null)|limit 0")
	plays(t, d, "delete from t|ok 60", "insert into t values (2, 'x', true, 1, null, null)|ok 1")
}

func TestInsertRefs(t *testing.T) {
	d := made(t, "create table p (s int, k text not null, primary key (k))", "create table c (own int, a int not null, up text not null, primary key (a), foreign key (up) references p, foreign key (own) references c)")
	d = plays(t, d,
		"insert into c values (null, 1, 'x')|reference 0",
		"insert into p values (1, 'x')|ok 1", "insert into p values (1, 'xx')|ok 1",
		"insert into c values (null, 1, 'x')|ok 1",
		"insert into c values (2, 2, 'xx')|ok 1", // its own key
		"insert into c values (3, 4, 'x')|reference 0", "insert into c values (1, 4, 'y')|reference 0", "insert into c values (1, 4, 'x ')|reference 0",
		"insert into c values (1, 4, 'x')|ok 1",
	)
	holds(t, d, "c", "(null, 1, 'x')(2, 2, 'xx')(1, 4, 'x')")
}

// sample has rows of keys 1 to 5; s is 'a' to 'e', n null where the key is even.
func sample(t *testing.T) []api.Tab {
	t.Helper()
	return made(t, "create table t (a int not null, s text not null, n dec, primary key (a), unique (n), check (n < 100.0))",
		"insert into t values (3, 'c', 3.5)", "insert into t values (1, 'a', 1.5)", "insert into t values (5, 'e', 5.5)", "insert into t values (4, 'd', null)", "insert into t values (2, 'b', null)")
}

func TestSelectAndCount(t *testing.T) {
	d := sample(t)
	for where, want := range map[string]string{
		"": "(1, 'a', 1.5)(2, 'b', null)(3, 'c', 3.5)(4, 'd', null)(5, 'e', 5.5)", " where true": "(1, 'a', 1.5)(2, 'b', null)(3, 'c', 3.5)(4, 'd', null)(5, 'e', 5.5)",
		" where false": "", " where null": "", " where n = null": "", " where null is null and a = 1": "(1, 'a', 1.5)",
		" where 2.0 < n": "(3, 'c', 3.5)(5, 'e', 5.5)", " where not 2.0 < n": "(1, 'a', 1.5)", " where n is null": "(2, 'b', null)(4, 'd', null)",
		" where s = 'c' or a = 2": "(2, 'b', null)(3, 'c', 3.5)", " where 4 < a": "(5, 'e', 5.5)", " where a < 2": "(1, 'a', 1.5)",
	} {
		does(t, d, "select * from t"+where, strings.TrimSpace("ok 0 "+want))
		does(t, d, "select count(*) from t"+where, fmt.Sprint("ok ", strings.Count(want, "(")))
		if next := does(t, d, "select * from t"+where, strings.TrimSpace("ok 0 "+want)); shown(next) != shown(d) {
			t.Errorf("P502: select changes: %s", shown(next))
		}
	}
	for where, want := range map[string]string{
		" where z = 1": "column 0", " where a": "type 0", " where 1": "type 0", " where s": "type 0", " where a + 1": "type 0", " where a = 'x'": "type 0", " where a and z": "column 0", " where z and a": "column 0", " where (a and true) or z": "type 0",
		" where n * 500000000000000.0 < 1.0": "overflow 0", " where a + 9223372036854775803 < 0": "overflow 0", " where false and a + " + most + " < 0": "overflow 0",
	} {
		for _, s := range []string{"select * from t", "select count(*) from t", "delete from t", "update t set a = a"} {
			does(t, d, s+where, want)
			u := strings.NewReplacer("from t", "from u", "update t", "update u").Replace(s + where)
			does(t, d, u, "table 0")
		}
	}
}

func TestDelete(t *testing.T) {
	for where, want := range map[string]string{
		"": "", " where true": "", " where false": "(1, 'a', 1.5)(2, 'b', null)(3, 'c', 3.5)(4, 'd', null)(5, 'e', 5.5)", " where null": "(1, 'a', 1.5)(2, 'b', null)(3, 'c', 3.5)(4, 'd', null)(5, 'e', 5.5)",
		" where 2.0 < n": "(1, 'a', 1.5)(2, 'b', null)(4, 'd', null)", " where a = 1": "(2, 'b', null)(3, 'c', 3.5)(4, 'd', null)(5, 'e', 5.5)", " where a = 5": "(1, 'a', 1.5)(2, 'b', null)(3, 'c', 3.5)(4, 'd', null)",
		" where a = 3 or a = 4": "(1, 'a', 1.5)(2, 'b', null)(5, 'e', 5.5)", " where n is null": "(1, 'a', 1.5)(3, 'c', 3.5)(5, 'e', 5.5)",
	} {
		d := does(t, sample(t), "delete from t"+where, fmt.Sprint("ok ", 5-strings.Count(want, "(")))
		holds(t, d, "t", want)
	}
}

func TestDeleteRefs(t *testing.T) {
	d := made(t,
		"create table p (k int not null, primary key (k))", "insert into p values (1)", "insert into p values (2)", "insert into p values (3)",
		"create table c (a int not null, up int, own int, primary key (a), foreign key (up) references p, foreign key (own) references c)",
		"insert into c values (1, 1, null)", "insert into c values (2, 2, 1)", "insert into c values (3, null, 3)",
	)
	d = plays(t, d,
		"delete from p where k = 1|reference 0", "delete from p where k = 2|reference 0", "delete from p|reference 0", "delete from p where k = 3|ok 1", "delete from p where k = 9|ok 0",
		"delete from c where a = 1|reference 0", "delete from c where a = 3|ok 1", "delete from c where a <= 2|ok 2", "delete from p|ok 2",
	)
	holds(t, d, "p", "")
	holds(t, d, "c", "")
}

func TestUpdate(t *testing.T) {
	for s, want := range map[string]string{
		"set s = 'z'":                             "5 (1, 'z', 1.5)(2, 'z', null)(3, 'z', 3.5)(4, 'z', null)(5, 'z', 5.5)",
		"set s = 'z' where n is null":             "2 (1, 'a', 1.5)(2, 'z', null)(3, 'c', 3.5)(4, 'z', null)(5, 'e', 5.5)",
		"set s = s where a < 3":                   "2 (1, 'a', 1.5)(2, 'b', null)(3, 'c', 3.5)(4, 'd', null)(5, 'e', 5.5)",
		"set s = 'z' where n < 2.0":               "1 (1, 'z', 1.5)(2, 'b', null)(3, 'c', 3.5)(4, 'd', null)(5, 'e', 5.5)",
		"set s = 'z' where null":                  "0 (1, 'a', 1.5)(2, 'b', null)(3, 'c', 3.5)(4, 'd', null)(5, 'e', 5.5)",
		"set s = null where false":                "0 (1, 'a', 1.5)(2, 'b', null)(3, 'c', 3.5)(4, 'd', null)(5, 'e', 5.5)",
		"set a = a + 1":                           "5 (2, 'a', 1.5)(3, 'b', null)(4, 'c', 3.5)(5, 'd', null)(6, 'e', 5.5)",
		"set a = a - 1":                           "5 (0, 'a', 1.5)(1, 'b', null)(2, 'c', 3.5)(3, 'd', null)(4, 'e', 5.5)",
		"set a = -a":                              "5 (-5, 'e', 5.5)(-4, 'd', null)(-3, 'c', 3.5)(-2, 'b', null)(-1, 'a', 1.5)",
		"set a = 10 - a where a <= 4":             "4 (5, 'e', 5.5)(6, 'd', null)(7, 'c', 3.5)(8, 'b', null)(9, 'a', 1.5)",
		"set a = 0 where a = 5":                   "1 (0, 'e', 5.5)(1, 'a', 1.5)(2, 'b', null)(3, 'c', 3.5)(4, 'd', null)",
		"set a = 9 where a = 1":                   "1 (2, 'b', null)(3, 'c', 3.5)(4, 'd', null)(5, 'e', 5.5)(9, 'a', 1.5)",
		"set a = 3 where a = 3":                   "1 (1, 'a', 1.5)(2, 'b', null)(3, 'c', 3.5)(4, 'd', null)(5, 'e', 5.5)",
		"set n = null":                            "5 (1, 'a', null)(2, 'b', null)(3, 'c', null)(4, 'd', null)(5, 'e', null)",
		"set n = n + 2.0":                         "5 (1, 'a', 3.5)(2, 'b', null)(3, 'c', 5.5)(4, 'd', null)(5, 'e', 7.5)",
		"set n = 7.0 - n":                         "5 (1, 'a', 5.5)(2, 'b', null)(3, 'c', 3.5)(4, 'd', null)(5, 'e', 1.5)",
		"set n = n + null":                        "5 (1, 'a', null)(2, 'b', null)(3, 'c', null)(4, 'd', null)(5, 'e', null)",
		"set n = 9.0 where a = 2":                 "1 (1, 'a', 1.5)(2, 'b', 9.0)(3, 'c', 3.5)(4, 'd', null)(5, 'e', 5.5)",
		"set n = n where a = a and s = s":         "5 (1, 'a', 1.5)(2, 'b', null)(3, 'c', 3.5)(4, 'd', null)(5, 'e', 5.5)",
		"set n = -n * 2.0 where n = 3.5 or a = 4": "2 (1, 'a', 1.5)(2, 'b', null)(3, 'c', -7.0)(4, 'd', null)(5, 'e', 5.5)",
	} {
		n, after, _ := strings.Cut(want, " ")
		d := does(t, sample(t), "update t "+s, "ok "+n)
		holds(t, d, "t", after)
	}
	for s, want := range map[string]string{
		"set z = 1": "column 0", "set s = z": "column 0", "set s = s + 1": "type 0", "set a = 1.0": "type 0", "set a = 'x'": "type 0", "set n = 1": "type 0", "set n = a": "type 0", "set s = x'00'": "type 0", "set s = a = 1": "type 0",
		"set a = null": "null 0", "set s = null where a = 5": "null 0", "set a = a + null": "null 0",
		"set n = 100.0 where a = 2": "check 0", "set n = n + 95.0": "check 0", "set n = n * 500000000000000.0": "overflow 0", "set a = a + 9223372036854775803": "overflow 0",
		"set a = 1": "twice 0", "set a = 1 where a = 2": "twice 0", "set a = a - 1 where 1 < a": "twice 0", "set n = 1.0": "twice 0", "set n = 1.5 where a = 2": "twice 0", "set n = 5.5 where 4 < a": "ok 1", "set n = 5.5 where a <= 1": "twice 0",
	} {
		does(t, sample(t), "update t "+s, want)
	}
}

// Rows are changed all together: each value is reckoned from what the rows were.
func TestUpdateTogether(t *testing.T) {
	d := made(t, "create table t (a int not null, b int, c int, primary key (a), unique (b), check (b <> c), foreign key (b) references t)")
	for i := range 10 {
		d = does(t, d, fmt.Sprintf("insert into t values (%d, null, %d)", i, i+1), "ok 1")
	}
	d = plays(t, d,
		"update t set b = 9 - a|check 0", // 9 - a is a + 1 where a is 4
		"update t set b = 9 - a where a <> 4|ok 9",
		"update t set a = 9 - a|ok 10", // the keys change places, and each one is there still
		"update t set a = a + 1|reference 0",
		"update t set b = b + 1 where b < 8|twice 0",
	)
	holds(t, d, "t", "(0, 0, 10)(1, 1, 9)(2, 2, 8)(3, 3, 7)(4, 4, 6)(5, null, 5)(6, 6, 4)(7, 7, 3)(8, 8, 2)(9, 9, 1)")
}

func TestUpdateRefs(t *testing.T) {
	start := func() []api.Tab {
		return made(t,
			"create table p (k int not null, n int, primary key (k))", "insert into p values (1, 1)", "insert into p values (2, 1)", "insert into p values (3, 1)",
			"create table c (a int not null, up int, own int, primary key (a), foreign key (up) references p, foreign key (own) references c)",
			"insert into c values (1, 1, null)", "insert into c values (2, 2, 1)", "insert into c values (4, null, 4)",
			"create table e (a int not null, up int, primary key (a), foreign key (up) references p)",
		)
	}
	for s, want := range map[string]string{
		"update p set k = 5 where k = 3": "ok 1", "update p set k = 5 where k = 2": "reference 0", "update p set k = k + 1": "reference 0", "update p set k = 3 - k where k < 3": "ok 2", "update p set n = 7": "ok 3", "update p set k = k": "ok 3",
		"update c set up = 3": "ok 3", "update c set up = 4 where a = 1": "reference 0", "update c set up = null": "ok 3", "update c set up = a where a < 3": "ok 2", "update c set up = a": "reference 0",
		"update c set own = 2": "ok 3", "update c set own = 3": "reference 0", "update c set own = null": "ok 3", "update c set own = a": "ok 3",
		"update c set a = 9 where a = 2": "ok 1", "update c set a = 9 where a = 1": "reference 0", "update c set a = 9 where a = 4": "reference 0", "update c set a = 3 - a where a < 3": "ok 2",
	} {
		does(t, start(), s, want)
	}
}

// Of all faults of an update that may come together the first one is told.
func TestUpdateOrder(t *testing.T) {
	d := made(t, "create table p (k int not null, primary key (k))", "insert into p values (5)", "insert into p values (6)", "insert into p values (10)", "insert into p values (-10)",
		"create table t (a int not null, b int, primary key (a), unique (b), check (a <> 20 and not (a is null) and a - 9223372036854775800 < 0), foreign key (a) references p)", "insert into t values (5, 1)", "insert into t values (6, 2)")
	// What is told of a column's new value by its type; and if it is that of one row, of both rows.
	values := []struct{ e, ofType, ofOne, ofBoth string }{
		{"y", "column 0", "", ""}, {"a + 'x'", "type 0", "", ""}, {"'x'", "type 0", "", ""}, {"'x' = 'x'", "type 0", "", ""}, {"'x' + y", "column 0", "", ""},
		{"a + " + most, "", "overflow 0", "overflow 0"},
		{"null", "", "null 0", "null 0"},        // and the Check
		{"20", "", "check 0", "check 0"},        // and twice, and no key
		{"-10", "", "overflow 0", "overflow 0"}, // of the Check; and twice
		{"6", "", "twice 0", "twice 0"},
		{"30", "", "reference 0", "twice 0"},
		{"10", "", "ok 1", "twice 0"},
		{"a", "", "ok 1", "ok 2"},
	}
	wheres := []struct {
		where, told string
		both        bool
	}{
		{" where y", "column 0", false}, {" where a = 'x'", "type 0", false}, {" where a + 1", "type 0", false}, {" where a + " + most + " < 0", "overflow 0", false},
		{" where a = 5", "", false}, {" where 0 < a", "", true}, {"", "", true},
	}
	for _, v := range values {
		for _, w := range wheres {
			want := v.ofOne
			if w.both {
				want = v.ofBoth
			}
			if w.told != "" {
				want = w.told
			}
			if v.ofType != "" {
				want = v.ofType
			}
			does(t, d, "update t set a = "+v.e+w.where, want)
			does(t, d, "update t set y = "+v.e+w.where, "column 0")
			does(t, d, "update z set y = "+v.e+w.where, "table 0")
		}
	}
}

// Row by row: what the first row is refused for is told.
func TestUpdateRowByRow(t *testing.T) {
	d := made(t, "create table t (a int not null, b int, primary key (a), check (b <> 10 and (b is null or b + 9223372036854775700 <> 1)))", "insert into t values (1, null)", "insert into t values (2, null)")
	plays(t, d,
		"update t set b = a + 8|check 0",                 // 9, 10
		"update t set b = a + 9|check 0",                 // 10, 11
		"update t set b = a + 10|ok 2",                   // 11, 12
		"update t set b = a * 200|overflow 0",            // both
		"update t set b = 10 + (a - 1) * 200|check 0",    // 10, then too much
		"update t set b = 10 + (2 - a) * 200|overflow 0", // too much, then 10
	)
}
