package cmd_test

import (
	"fmt"
	"strings"
	"testing"

	"federation/api"
	"federation/cmd"
)

// die throws, each time the same.
type die struct{ n uint64 }

func (d *die) of(k int) int {
	d.n = d.n*6364136223846793005 + 1442695040888963407
	return int(d.n>>33) % k
}

func one[T any](d *die, l ...T) T { return l[d.of(len(l))] }

// number is one at whose size something happens, or any.
func (d *die) number() int {
	n := 1<<d.of(63) - d.of(2)
	if d.of(3) == 0 {
		n |= d.of(1 << 31)
	}
	return n
}

func (d *die) text(n int) string {
	b := make([]byte, n)
	for i := range b {
		b[i] = byte(one(d, 0, 1, '1', '2', 127, 128, 255, d.of(256)))
	}
	return string(b)
}

// command is a right one of a kind.
func (d *die) command(kind int) api.Cmd {
	c := api.Cmd{Kind: kind, Id: d.number(), Txn: d.number()}
	switch kind {
	case api.CNote:
		c.Text = d.text(d.of(41))
	case api.CDecide, api.CFinish:
		c.Commit = d.of(2) == 0
		for range d.of(5) {
			w := api.Write{K: d.text(1 + d.of(one(d, 3, 200, 300))), Gone: d.of(3) == 0}
			if !w.Gone {
				w.V = d.text(d.of(one(d, 3, 200, 400)))
			}
			c.Writes = append(c.Writes, w)
		}
	}
	return c
}

// said is a command as a text: no list and an empty one are the same.
func said(c api.Cmd) string {
	return fmt.Sprintf("%d %d %d %v %q %s", c.Kind, c.Id, c.Txn, c.Commit, c.Text, saidWrites(c.Writes))
}

func saidWrites(l []api.Write) string {
	var b strings.Builder
	for _, w := range l {
		fmt.Fprintf(&b, "%q %q %v; ", w.K, w.V, w.Gone)
	}
	return b.String()
}

// shown is the beginning of what may be long.
func shown(s string) string { return fmt.Sprintf("%.200q", s) }

func writes(n int) []api.Write {
	l := make([]api.Write, n)
	for i := range l {
		l[i].K = "k"
	}
	return l
}

func repeat(n int) string { return strings.Repeat("x", n) }

// largest are commands that are as large as they may be, in one thing or in all.
func largest() []api.Cmd {
	const top = 1<<63 - 1
	full := writes(1000)
	for i := range full {
		full[i] = api.Write{K: repeat(300), V: repeat(4000)}
	}
	return []api.Cmd{
		{Id: top, Txn: top},
		{Kind: api.CDecide, Writes: writes(1000)},
		{Kind: api.CFinish, Writes: writes(1000)},
		{Kind: api.CDecide, Writes: []api.Write{{K: repeat(300)}}},
		{Kind: api.CFinish, Writes: []api.Write{{K: repeat(300), Gone: true}}},
		{Kind: api.CDecide, Writes: []api.Write{{K: "a", V: repeat(4000)}}},
		{Kind: api.CFinish, Id: top, Txn: top, Commit: true, Writes: full},
		{Kind: api.CNote, Id: top, Txn: top, Text: repeat(40)},
	}
}

// encoded is Encode of what must have one.
func encoded(t *testing.T, c api.Cmd, form int) string {
	t.Helper()
	s, is := cmd.Encode(c, form)
	if !is {
		t.Fatalf("P701: Encode of %s in form %d: false", shown(said(c)), form)
	}
	return s
}

// decodes holds that s is c in a form, and that Up raises it to two.
func decodes(t *testing.T, s string, c api.Cmd, form int, two string) {
	t.Helper()
	got, n, is := cmd.Decode(s)
	if !is || n != form || said(got) != said(c) {
		t.Errorf("P701: Decode of %s: %s, %d, %v, not %s", shown(s), shown(said(got)), n, is, shown(said(c)))
	}
	if up, is := cmd.Up(s); !is || up != two {
		t.Errorf("P702: Up of %s: %s, %v, not %s", shown(s), shown(up), is, shown(two))
	}
}

// none holds that s is no command, and that zero values stand beside the false (P4).
func none(t *testing.T, s string) {
	t.Helper()
	if c, n, is := cmd.Decode(s); is || n != 0 || said(c) != said(api.Cmd{}) {
		t.Errorf("P701: Decode of %s: %s, %d, %v", shown(s), shown(said(c)), n, is)
	}
	if up, is := cmd.Up(s); is || up != "" {
		t.Errorf("P701: Up of %s: %s, %v", shown(s), shown(up), is)
	}
}
