package shard_test

import (
	"fmt"
	"strings"
	"testing"

	"federation/api"
	"federation/cmd"
	"federation/shard"
)

// die throws, each time the same.
type die struct{ n uint64 }

func (d *die) of(k int) int {
	d.n = d.n*6364136223846793005 + 1442695040888963407
	return int(d.n>>33) % k
}

func one[T any](d *die, l ...T) T { return l[d.of(len(l))] }

// commit and not are what is decided of a transaction.
const (
	commit = true
	not    = false
)

func nothing(id int) api.Cmd { return api.Cmd{Id: id} }

func lock(id, txn int) api.Cmd { return api.Cmd{Kind: api.CLock, Id: id, Txn: txn} }

func decide(id, txn int, is bool, l ...api.Write) api.Cmd {
	return api.Cmd{Kind: api.CDecide, Id: id, Txn: txn, Commit: is, Writes: l}
}

func finish(id, txn int, is bool, l ...api.Write) api.Cmd {
	return api.Cmd{Kind: api.CFinish, Id: id, Txn: txn, Commit: is, Writes: l}
}

func gate(id int) api.Cmd { return api.Cmd{Kind: api.CGate, Id: id} }

func note(id int, text string) api.Cmd { return api.Cmd{Kind: api.CNote, Id: id, Text: text} }

// put and gone are writes.
func put(k, v string) api.Write { return api.Write{K: k, V: v} }

func gone(k string) api.Write { return api.Write{K: k, Gone: true} }

// pairs are those of a text like "a=1 b=2".
func pairs(text string) []api.Pair {
	var l []api.Pair
	for _, word := range strings.Fields(text) {
		k, v, _ := strings.Cut(word, "=")
		l = append(l, api.Pair{K: k, V: v})
	}
	return l
}

// bytes is a command as it is written.
func bytes(t *testing.T, c api.Cmd, form int) string {
	t.Helper()
	s, is := cmd.Encode(c, form)
	if !is {
		t.Fatalf("no command of form %d: %v", form, c)
	}
	return s
}

// log is commands in form 1; but a note, which is in form 2.
func log(t *testing.T, l ...api.Cmd) []string {
	t.Helper()
	var out []string
	for _, c := range l {
		form := 1
		if c.Kind == api.CNote {
			form = 2
		}
		out = append(out, bytes(t, c, form))
	}
	return out
}

// applied is what commands make of no state, one by one.
func applied(form int, l ...string) shard.State {
	var s shard.State
	for _, data := range l {
		s = shard.Apply(s, form, data)
	}
	return s
}

// said is a state as a text: no list and an empty one are the same.
func said(s shard.State) string {
	var b strings.Builder
	fmt.Fprintf(&b, "pairs %s; lock %d; gate %v; stopped %v; notes %q; made", saidPairs(s.Pairs), s.Lock, s.Gate, s.Stopped, s.Notes)
	for _, m := range s.Made {
		b.WriteString(saidMade(m))
	}
	b.WriteString("; told")
	for _, t := range s.Told {
		b.WriteString(saidTold(t))
	}
	return b.String()
}

func saidPairs(l []api.Pair) string {
	var b strings.Builder
	for _, p := range l {
		fmt.Fprintf(&b, "(%q %q)", p.K, p.V)
	}
	return b.String()
}

func saidMade(m shard.Made) string {
	var b strings.Builder
	for _, w := range m.Writes {
		fmt.Fprintf(&b, "(%q %q %v)", w.K, w.V, w.Gone)
	}
	return fmt.Sprintf("{%d %v %s}", m.Txn, m.Commit, b.String())
}

func saidTold(t shard.Told) string {
	return fmt.Sprintf("[%d %v %s %s]", t.Id, t.Ok, saidPairs(t.Pairs), saidMade(t.Made))
}

// same holds that a state is as it should be.
func same(t *testing.T, what string, got, want shard.State) {
	t.Helper()
	if g, w := said(got), said(want); g != w {
		t.Errorf("P1001: %s:\n%.2000s\nnot\n%.2000s", what, g, w)
	}
}
