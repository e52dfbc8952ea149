package db_test

import (
	"fmt"
	"strings"
	"testing"

	"federation/api"
	"federation/db"
)

// The chapter's example.
func TestDropOverNothing(t *testing.T) {
	for _, d := range [][]api.Tab{nil, {}} {
		next, a := db.Exec(d, read(t, "drop table t"))
		if len(next) != 0 || told(a) != "table 0" {
			t.Errorf("P502: %v, %v", next, a)
		}
	}
}

func TestCreate(t *testing.T) {
	d := plays(t, nil,
		"create table m (a int not null, b text, primary key (a))",
		"create table z (k text not null, primary key (k))",
		"create table a (x bytes, k dec not null, primary key (k), unique (x), check (k < 5.0))",
		"create table ab (a int not null, s text, n dec, primary key (a), foreign key (a) references m, foreign key (s) references z, foreign key (n) references a, foreign key (a) references ab)",
	)
	if names(d) != "a ab m z" {
		t.Errorf("P502: %s", names(d))
	}
	want := form(t, "create table ab (a int not null, s text, n dec, primary key (a), foreign key (a) references m, foreign key (s) references z, foreign key (n) references a, foreign key (a) references ab)")
	if got := shown(d[1:2]); got != shown([]api.Tab{{T: want}}) {
		t.Errorf("P502: %s", got)
	}
	plays(t, d,
		"create table m (a int not null, primary key (a))|exists 0",
		"create table m (a int not null, b text, primary key (a))|exists 0",
		"create table t (a int, primary key (a))|type 0",
		"create table t (a int not null, primary key (a), check (b))|type 0",
		"create table t (a int not null, primary key (a), foreign key (a) references u)|table 0",
		"create table t (a int not null, primary key (a), foreign key (a) references m, foreign key (a) references u)|table 0",
		"create table t (a int not null, primary key (a), foreign key (a) references z)|type 0",
		"create table t (a int not null, primary key (a), foreign key (a) references m, foreign key (a) references a)|type 0",
		"create table t (a int not null, b text, primary key (a), foreign key (b) references m)|type 0",
		"create table t (a int not null, b text, primary key (a), foreign key (b) references t)|type 0",
		"create table t (a int not null, b text, primary key (a), foreign key (b) references z)", "drop table t",
		"create table t (b int, a text not null, primary key (a), foreign key (b) references t)|type 0",
		"create table t (b text, a text not null, primary key (a), foreign key (b) references t)",
	)
}

// Of all faults of a create that may come together the first one is told.
func TestCreateOrder(t *testing.T) {
	few := []string{"create table k (a int not null, primary key (a))", "create table s (a text not null, primary key (a))"}
	many := append([]string{}, few...)
	for i := range 6 {
		many = append(many, fmt.Sprintf("create table u%d (a int not null, primary key (a))", i))
	}
	for set := range 32 {
		l := few
		if set&2 != 0 {
			l = many
		}
		name, bond := "t", ""
		want := "ok 0"
		for i, f := range []struct{ name, key, link, e string }{
			{"k", "", "", "exists"}, {"", "", "", "limit"}, {"", "a int", "", "type"}, {"", "", ", foreign key (b) references none", "table"}, {"", "", ", foreign key (b) references s", "type"},
		} {
			if set>>i&1 == 0 {
				continue
			}
			if f.name != "" {
				name = f.name
			}
			// The link of the wrong type stands ahead of the one whose table is not there.
			bond = f.link + bond
			if want == "ok 0" {
				want = f.e + " 0"
			}
		}
		key := "a int not null"
		if set&4 != 0 {
			key = "a int"
		}
		does(t, made(t, l...), "create table "+name+" ("+key+", b int, primary key (a)"+bond+")", want)
	}
}

// What is read may be what is not Right: written by Text, it is too deep, or too long.
func TestCreateOfWhatIsRead(t *testing.T) {
	for deep := 10; deep < 16; deep++ {
		want := "ok 0"
		if deep > 12 {
			want = "type 0"
		}
		does(t, nil, "create table t (a int not null, primary key (a), check (a"+strings.Repeat(" * a", deep)+" = 1))", want)
	}
	half := strings.Repeat("(a=1 or a=2)and", 10) + "(a=3 or a=4)"
	for n := 1; len(half)*n < 3800; n++ {
		s := "create table t (a int not null, primary key (a), check ((" + strings.Repeat(half+")and(", n-1) + half + ")))"
		next, a := db.Exec(nil, read(t, s))
		if want := lawRight(read(t, s).T); want != (a.E == api.OK) || want != (len(next) == 1) || !want && a.E != api.Type {
			t.Errorf("P502: %d: %v, %v", n, want, a.E)
		}
	}
}

func TestMaxTables(t *testing.T) {
	var d []api.Tab
	for i := range 8 {
		d = does(t, d, fmt.Sprintf("create table t%d (a int not null, primary key (a))", (i*3)%8), "ok 0")
	}
	if names(d) != "t0 t1 t2 t3 t4 t5 t6 t7" {
		t.Errorf("P502: %s", names(d))
	}
	d = plays(t, d,
		"create table t8 (a int not null, primary key (a))|limit 0",
		"create table t8 (a int, primary key (a))|limit 0",
		"create table t8 (a int not null, primary key (a), foreign key (a) references none)|limit 0",
		"create table t7 (a int not null, primary key (a))|exists 0",
		"drop table t3",
		"create table t8 (a int not null, primary key (a))",
		"create table t3 (a int not null, primary key (a))|limit 0",
	)
	if names(d) != "t0 t1 t2 t4 t5 t6 t7 t8" {
		t.Errorf("P502: %s", names(d))
	}
}

func TestDrop(t *testing.T) {
	d := plays(t, nil,
		"create table a (k int not null, primary key (k))",
		"create table b (k int not null, primary key (k), foreign key (k) references a, foreign key (k) references b)",
		"create table c (k int not null, primary key (k), foreign key (k) references c)",
		"insert into a values (1)|ok 1", "insert into b values (1)|ok 1", "insert into c values (5)|ok 1",
		"drop table d|table 0", "drop table aa|table 0",
		"drop table a|reference 0", "drop table c", "drop table c|table 0",
	)
	if names(d) != "a b" {
		t.Errorf("P502: %s", names(d))
	}
	// A link bars a drop, whether rows follow it or not; that of a table to itself does not.
	d = plays(t, d, "delete from b|ok 1", "drop table a|reference 0", "drop table b", "drop table a")
	if len(d) != 0 {
		t.Errorf("P502: %s", names(d))
	}
}

// The rows of a table are gone with it.
func TestDropAndCreate(t *testing.T) {
	d := made(t, "create table a (k int not null, primary key (k))", "insert into a values (1)", "drop table a", "create table a (k text not null, primary key (k))")
	holds(t, d, "a", "")
	plays(t, d, "insert into a values (1)|type 0", "insert into a values ('1')|ok 1")
}

func TestLink(t *testing.T) {
	d := made(t,
		"create table p (k int not null, s text, primary key (k))",
		"create table c (a text not null, p int, q int not null, primary key (a), unique (p))",
		"insert into p values (1, 'x')", "insert into p values (2, 'c')",
		"insert into c values ('c', 1, 2)", "insert into c values ('d', null, 2)",
	)
	d = plays(t, d,
		"alter table z add foreign key (p) references p|table 0",
		"alter table c add foreign key (p) references z|table 0",
		"alter table c add foreign key (z) references p|column 0",
		"alter table c add foreign key (k) references p|column 0",
		"alter table c add foreign key (a) references p|type 0",
		"alter table c add foreign key (p) references c|type 0",
		"alter table p add foreign key (s) references c|reference 0",
		"alter table c add foreign key (p) references p",
		"alter table c add foreign key (q) references p",
		"alter table c add foreign key (a) references c",
	)
	links := fmt.Sprint(d[0].T.Links)
	if want := fmt.Sprint([]api.Link{{Col: 1, Table: "p"}, {Col: 2, Table: "p"}, {Col: 0, Table: "c"}}); links != want {
		t.Errorf("P502: %s, not %s", links, want)
	}
	holds(t, d, "c", "('c', 1, 2)('d', null, 2)")
	plays(t, d,
		"update c set p = 3 where a = 'c'|reference 0",
		"delete from p where k = 2|reference 0",
		"update p set s = 'e' where k = 1|ok 1",
		"alter table p add foreign key (s) references c|reference 0",
		"update p set s = null where k = 1|ok 1",
		"alter table p add foreign key (s) references c",
		"drop table c|reference 0",
	)
}

// A link is followed by rows of its own table, too, and by none if there are none.
func TestLinkOfOwnRows(t *testing.T) {
	d := made(t, "create table a (k int not null, up int, primary key (k))", "create table none (k int not null, primary key (k))", "insert into a values (1, 2)")
	d = plays(t, d,
		"alter table a add foreign key (up) references a|reference 0",
		"alter table a add foreign key (up) references none|reference 0",
		"alter table none add foreign key (k) references a",
		"insert into a values (2, 2)|ok 1",
		"alter table a add foreign key (up) references a",
		"alter table a add foreign key (up) references none|reference 0",
		"insert into none values (3)|reference 0", "insert into none values (2)|ok 1",
		"alter table a add foreign key (up) references none",
	)
	plays(t, d, "delete from none|reference 0", "update a set up = null|ok 2", "delete from none|ok 1")
}

func TestMaxLinks(t *testing.T) {
	d := made(t, "create table a (k int not null, s text, primary key (k))", "create table b (k int not null, primary key (k))", "insert into a values (1, null)")
	for i := range 6 {
		d = does(t, d, "alter table a add foreign key (k) references a", "ok 0")
		if len(d[0].T.Links) != i+1 {
			t.Errorf("P502: %v", d[0].T.Links)
		}
	}
	plays(t, d,
		"alter table a add foreign key (k) references a|limit 0",
		"alter table a add foreign key (k) references b|limit 0", // and no key there
		"alter table a add foreign key (s) references a|type 0",
		"alter table a add foreign key (z) references a|column 0",
		"alter table a add foreign key (k) references z|table 0",
		"alter table b add foreign key (k) references a",
	)
}

// A table that with its link is too long to be read stays as it is.
func TestLinkOfLongTables(t *testing.T) {
	more := len(", foreign key (a) references t")
	for n := 4000 - 2*more; n <= 4000; n++ {
		d, a := db.Exec(nil, api.Stmt{Kind: api.SCreate, T: long(t, n)})
		if a.E != api.OK {
			t.Fatal(a.E)
		}
		d = does(t, d, "insert into t values (1)", "ok 1")
		left := 4000 - n
		for range 3 {
			want := "ok 0"
			if left < more {
				want = "limit 0"
			}
			d = does(t, d, "alter table t add foreign key (a) references t", want)
			left -= more
		}
	}
}
