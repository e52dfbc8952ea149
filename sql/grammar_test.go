package sql_test

import (
	"reflect"
	"slices"
	"strings"
	"testing"

	"federation/api"
	"federation/sql"
)

// grammar is that of the chapter, written out: a thing, its ways, the one that ends soonest first. Small letters and marks stand for themselves, but `a` for names, `1` for numbers, `”` for text and bytes.
const grammar = `
S: drop table a | alter table a add foreign key ( a ) references a | insert into a values ( LITS )
S: create table a ( COLS , primary key ( a ) UNIQUES CHECK LINKS )
S: update a set a = OR WHERE | delete from a WHERE | select * from a WHERE | select count ( * ) from a WHERE
COLS: COL | COLS , COL
COL: a TYPE | a TYPE not null
TYPE: bool | int | dec | text | bytes
UNIQUES: | UNIQUES , unique ( a )
CHECK: | , check ( OR )
LINKS: | LINKS , foreign key ( a ) references a
LITS: LIT | - 1 | LITS , LIT | LITS , - 1
LIT: null | true | false | 1 | ''
WHERE: | where OR
OR: AND | OR or AND
AND: NOT | AND and NOT
NOT: CMP | not NOT
CMP: SUM | SUM = SUM | SUM <> SUM | SUM < SUM | SUM <= SUM | SUM is null
SUM: PROD | SUM + PROD | SUM - PROD
PROD: UN | PROD * UN
UN: LIT | a | ( OR ) | - UN
`

// way is one in which a thing is made of signs and things.
type way struct {
	thing string
	parts []string
}

func ways() []way {
	var l []way
	for line := range strings.SplitSeq(strings.TrimSpace(grammar), "\n") {
		thing, rest, _ := strings.Cut(line, ":")
		for parts := range strings.SplitSeq(rest, "|") {
			l = append(l, way{thing, strings.Fields(parts)})
		}
	}
	return l
}

// item is how far a way has come, and where it began.
type item struct{ way, dot, from int }

// first is how many of signs can begin a statement; whole: all of them are one. By Earley's sets of items.
func first(l []way, signs []string) (n int, whole bool) {
	sets := [][]item{nil}
	for i, w := range l {
		if w.thing == "S" {
			sets[0] = append(sets[0], item{i, 0, 0})
		}
	}
	for n = 0; ; n++ {
		complete(l, sets, n)
		if n == len(signs) {
			return n, slices.ContainsFunc(sets[n], func(x item) bool {
				return l[x.way].thing == "S" && x.dot == len(l[x.way].parts)
			})
		}
		var next []item
		for _, x := range sets[n] {
			if p := l[x.way].parts; x.dot < len(p) && p[x.dot] == signs[n] {
				next = append(next, item{x.way, x.dot + 1, x.from})
			}
		}
		if len(next) == 0 {
			return n, false
		}
		sets = append(sets, next)
	}
}

func complete(l []way, sets [][]item, n int) {
	add := func(x item) bool {
		if slices.Contains(sets[n], x) {
			return false
		}
		sets[n] = append(sets[n], x)
		return true
	}
	for more := true; more; { // again, as long as one was added: a thing may be made of nothing
		more = false
		for i := 0; i < len(sets[n]); i++ {
			x := sets[n][i]
			p := l[x.way].parts
			if x.dot == len(p) {
				for _, y := range sets[x.from] {
					if q := l[y.way].parts; y.dot < len(q) && q[y.dot] == l[x.way].thing && add(item{y.way, y.dot + 1, y.from}) {
						more = true
					}
				}
				continue
			}
			for k, w := range l {
				if w.thing == p[x.dot] && add(item{k, 0, n}) {
					more = true
				}
			}
		}
	}
}

// grow are signs that a part may be made of.
func (d *die) grow(l []way, part string, deep int) []string {
	if part < "A" || part > "Z" {
		return []string{part}
	}
	var fit []way
	for _, w := range l {
		if w.thing == part {
			fit = append(fit, w)
		}
	}
	w := fit[0]
	if deep > 0 {
		w = one(d, fit...)
	}
	var out []string
	for _, p := range w.parts {
		out = append(out, d.grow(l, p, deep-1)...)
	}
	return out
}

// joined are signs as a text, and where each of them stands; the last place is the text's end.
func (d *die) joined(signs []string) (string, []int) {
	s := strings.Repeat(" ", d.of(2))
	var at []int
	for i, sign := range signs {
		if i > 0 && strings.ContainsAny(sign[:1], "abcdefghijklmnopqrstuvwxyz1'=>") || d.of(2) == 0 {
			s += one(d, " ", "\n", " \n ")
		}
		at = append(at, len(s))
		switch sign {
		case "1":
			sign = one(d, "1", "0", "2.5", "9223372036854775807", "00")
		case "''":
			sign = one(d, "''", "'a b'", "x''", "x'0f'", "'it''s'")
		}
		s += sign
	}
	s += strings.Repeat(" ", d.of(2))
	return s, append(at, len(s))
}

// Signs by chance, near to statements: they are read, or refused at the first one with which no statement goes on.
func TestAgainstTheGrammar(t *testing.T) {
	d, l := &die{4}, ways()
	all := strings.Fields("create table drop alter add foreign key references primary unique check not null insert into values update set where delete from select count true false and or is bool int dec text bytes a 1 '' ( ) , ; = < <> <= + - *")
	fine, bad := 0, 0
	for range 30000 {
		signs := d.grow(l, "S", 1+d.of(14))
		for range d.of(3) {
			switch i := d.of(len(signs) + 1); {
			case d.of(3) == 0:
				signs = slices.Insert(signs, i, one(d, all...))
			case i < len(signs) && d.of(2) == 0:
				signs = slices.Delete(signs, i, i+1)
			case i < len(signs):
				signs[i] = one(d, all...)
			}
		}
		if len(signs) > 40 || tooDeep(signs) {
			continue
		}
		s, places := d.joined(signs)
		n, whole := first(l, signs)
		if signs[0] == "insert" && n > 0 && signs[n-1] == "-" {
			n-- // it is BadText itself
		}
		if !whole {
			bad++
			isRefused(t, "P303", s, places[n], api.BadText)
			continue
		}
		fine++
		x, _, e := sql.Parse(s)
		if e != api.OK {
			t.Errorf("P303: %q: %v", s, e)
		}
		if again, _, e := sql.Parse(sql.Text(x)); e != api.Limit && !reflect.DeepEqual(again, x) {
			t.Errorf("P304: %q: %v, not %v", s, again, x)
		}
	}
	if fine < 5000 || bad < 5000 {
		t.Error(fine, bad)
	}
}

// tooDeep: there are as many signs as may stand in one another.
func tooDeep(signs []string) bool {
	n := 0
	for _, s := range signs {
		if s == "(" || s == "-" || s == "not" {
			n++
		}
	}
	return n > api.MaxDeep
}
