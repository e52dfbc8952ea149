package db_test

import (
	"fmt"
	"strings"
	"testing"

	"federation/api"
	"federation/db"
	"federation/sql"
)

func flag(n int) api.Value { return api.Value{Kind: api.TBool, N: n} }

func num(n int) api.Value { return api.Value{Kind: api.TInt, N: n} }

func dec(n, scale int) api.Value { return api.Value{Kind: api.TDec, N: n, Scale: scale} }

func text(s string) api.Value { return api.Value{Kind: api.TText, S: s} }

func raw(s string) api.Value { return api.Value{Kind: api.TBytes, S: s} }

func lit(v api.Value) api.Expr { return api.Expr{Kind: api.XLit, V: v} }

func col(name string) api.Expr { return api.Expr{Kind: api.XCol, Name: name} }

func of(kind int, l ...api.Expr) api.Expr { return api.Expr{Kind: kind, L: l} }

// die throws numbers that are the same in each run.
type die struct{ n uint64 }

func (d *die) of(k int) int {
	d.n = d.n*6364136223846793005 + 1442695040888963407
	return int(d.n>>33) % k
}

// one picks.
func one[T any](d *die, l ...T) T { return l[d.of(len(l))] }

// read is a statement of a text.
func read(t *testing.T, s string) api.Stmt {
	t.Helper()
	x, at, e := sql.Parse(s)
	if e != api.OK {
		t.Fatalf("%s: %d, %v", s, at, e)
	}
	return x
}

// form is the table that a text says.
func form(t *testing.T, s string) api.Table {
	t.Helper()
	return read(t, s).T
}

// rows are written as they stand in an insert.
func rows(l [][]api.Value) string {
	out := ""
	for _, row := range l {
		var words []string
		for _, v := range row {
			words = append(words, sql.Lit(v))
		}
		out += "(" + strings.Join(words, ", ") + ")"
	}
	return out
}

// told is an answer as a text: its error's word, N, Rows.
func told(a api.Answer) string {
	return strings.TrimSpace(fmt.Sprint(a.E, " ", a.N, " ", rows(a.Rows)))
}

// shown is tables as a text, whatever they are.
func shown(d []api.Tab) string { return fmt.Sprint(d) }

// made are the tables that statements make, none of which is refused.
func made(t *testing.T, l ...string) []api.Tab {
	t.Helper()
	var d []api.Tab
	for _, s := range l {
		var a api.Answer
		if d, a = db.Exec(d, read(t, s)); a.E != api.OK {
			t.Fatalf("P502: %s: %v", s, a.E)
		}
	}
	return d
}

// does is what d becomes by a statement that is told want: nothing else, if that is an error.
func does(t *testing.T, d []api.Tab, s, want string) []api.Tab {
	t.Helper()
	before := shown(d)
	next, a := db.Exec(d, read(t, s))
	if told(a) != want {
		t.Errorf("P502: %s: %s, not %s", s, told(a), want)
	}
	if shown(d) != before {
		t.Fatalf("P2: %s changes what was handed in: %s, not %s", s, shown(d), before)
	}
	if a.E != api.OK && shown(next) != before {
		t.Fatalf("P502: %s is refused, but leaves %s, not %s", s, shown(next), before)
	}
	if why := unsound(next); why != "" {
		t.Fatalf("P504: %s leaves what is not sound: %s: %s", s, why, shown(next))
	}
	return next
}

// plays does statements; behind a | stands what each is told ("ok 0", where that lacks).
func plays(t *testing.T, d []api.Tab, l ...string) []api.Tab {
	t.Helper()
	for _, x := range l {
		s, want, has := strings.Cut(x, "|")
		if !has {
			want = "ok 0"
		}
		d = does(t, d, s, want)
	}
	return d
}

// holds says what the rows of a table are.
func holds(t *testing.T, d []api.Tab, name, want string) {
	t.Helper()
	for _, x := range d {
		if x.T.Name == name {
			if rows(x.Rows) != want {
				t.Errorf("P502: %s has %s, not %s", name, rows(x.Rows), want)
			}
			return
		}
	}
	t.Errorf("P502: there is no %s", name)
}

// names are those of tables, as they lie.
func names(d []api.Tab) string {
	var l []string
	for _, t := range d {
		l = append(l, t.T.Name)
	}
	return strings.Join(l, " ")
}
