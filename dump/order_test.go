package dump_test

import (
	"fmt"
	"strings"
	"testing"

	"federation/dump"
)

func TestOrder(t *testing.T) {
	for _, x := range []struct{ tables, want string }{
		{"", ""},
		{"a", "a"},
		{"c a b", "a b c"},
		// names are held against each other byte by byte
		{"t2 t10 t_ ta t t1", "t t1 t10 t2 t_ ta"},
		// to itself
		{"a:a", "a"},
		{"b:b a:a", "a b"},
		{"b:b a:b", "b a"},
		{"a:aa b:bab", "a b"},
		// to those ahead
		{"a:b b", "b a"},
		{"a:b b:c c", "c b a"},
		{"a:c b:c c", "c a b"},
		{"a:bc b c", "b c a"},
		{"a:d b c:b d", "b c d a"},
		{"a:bb b", "b a"},
		{"h:g g:f f:e e:d d:c c:b b:a a", "a b c d e f g h"},
		{"a:b b:c c:d d:e e:f f:g g:h h", "h g f e d c b a"},
		// one another, in a ring
		{"a:b b:a", "a b"},
		{"a:b b:a c", "c a b"},
		{"a:b b:c c:a", "a c b"},
		{"c:b b:a a:c", "a b c"},
		{"b:c c:b a", "a b c"},
		// the least that is left may stand in no ring itself
		{"a:b b:c c:b", "a b c"},
		{"a:c b:c c:b", "a b c"},
		// what the ring lets go comes ahead of the next ring
		{"a:b b:a c:d d:c", "a b c d"},
		{"a:d b:c c:b d:a", "a d b c"},
		{"b:a a:b d:a c:f f:c e", "e a b d c f"},
		// a ring, where a table links to itself too
		{"a:ab b:ba", "a b"},
		{"b:bc c:cb a:a d:dc", "a b c d"},
		{"a:bcdefg b:acdefh c:abdefg d:abcefg e:abcdfg f:abcdeg g:abcdef h:abcdef", "a b c d e f g h"},
	} {
		if got := strings.Join(dump.Order(graph(t, x.tables)), " "); got != x.want {
			t.Errorf("P601: Order of %s: %s, not %s", x.tables, got, x.want)
		}
	}
}

// Which links there are counts, not the columns that they lead from, nor rows.
func TestOrderLooksAtLinksAlone(t *testing.T) {
	d := made(t,
		"create table b (k text not null, n int, primary key (k))",
		"create table c (n int not null, k text, primary key (n), foreign key (k) references b)",
		"create table a (x int, k text, n int not null, primary key (n), foreign key (n) references c, foreign key (k) references b)",
		"alter table b add foreign key (n) references c",
		"insert into b values ('x', null)", "insert into c values (1, 'x')", "insert into a values (null, null, 1)",
	)
	if got := fmt.Sprint(dump.Order(d)); got != "[a b c]" {
		t.Errorf("P601: %s", got)
	}
}
