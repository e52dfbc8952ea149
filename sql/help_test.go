package sql_test

import (
	"reflect"
	"strings"
	"testing"

	"federation/api"
	"federation/sql"
)

const bound = 1_000_000_000_000_000

func flag(n int) api.Value { return api.Value{Kind: api.TBool, N: n} }

func num(n int) api.Value { return api.Value{Kind: api.TInt, N: n} }

func dec(n, scale int) api.Value { return api.Value{Kind: api.TDec, N: n, Scale: scale} }

func text(s string) api.Value { return api.Value{Kind: api.TText, S: s} }

func raw(s string) api.Value { return api.Value{Kind: api.TBytes, S: s} }

func lit(v api.Value) api.Expr { return api.Expr{Kind: api.XLit, V: v} }

func col(name string) api.Expr { return api.Expr{Kind: api.XCol, Name: name} }

func of(kind int, l ...api.Expr) api.Expr { return api.Expr{Kind: kind, L: l} }

// die throws numbers that are the same in each run.
type die struct{ n uint64 }

func (d *die) of(k int) int {
	d.n = d.n*6364136223846793005 + 1442695040888963407
	return int(d.n>>33) % k
}

// one picks.
func one[T any](d *die, l ...T) T { return l[d.of(len(l))] }

// isRead holds that Parse reads s as want.
func isRead(t *testing.T, promise, s string, want api.Stmt) {
	t.Helper()
	if got, at, e := sql.Parse(s); e != api.OK || at != 0 || !reflect.DeepEqual(got, want) {
		t.Errorf("%s: Parse of %.200q: %v, %d, %v, not %v", promise, s, got, at, e, want)
	}
}

// isRefused holds that Parse tells at and e of s, and nothing beside them (P4); and that ParseAll tells the same, where s is not too long for Parse alone.
func isRefused(t *testing.T, promise, s string, wantAt int, want api.Errno) {
	t.Helper()
	if got, at, e := sql.Parse(s); e != want || at != wantAt || !reflect.DeepEqual(got, api.Stmt{}) {
		t.Errorf("%s: Parse of %.200q: %v, %d, %v, not %d, %v", promise, s, got, at, e, wantAt, want)
	}
	// A statement may end with a `;` there, and text may lack one.
	if len(s) > api.MaxText || strings.Contains(s, ";") || strings.TrimLeft(s, " \n") == "" {
		return
	}
	if l, at, e := sql.ParseAll(s); len(l) != 0 || e != want || at != wantAt {
		t.Errorf("%s: ParseAll of %.200q: %v, %d, %v, not %d, %v", promise, s, l, at, e, wantAt, want)
	}
}

// whereIsRead and whereIsRefused hold the same of an expression; places are told from its beginning on.
func whereIsRead(t *testing.T, promise, s string, want api.Expr) {
	t.Helper()
	isRead(t, promise, "delete from t where "+s, api.Stmt{Kind: api.SDelete, Name: "t", Where: want})
}

func whereIsRefused(t *testing.T, promise, s string, at int, e api.Errno) {
	t.Helper()
	isRefused(t, promise, "delete from t where "+s, len("delete from t where ")+at, e)
}
