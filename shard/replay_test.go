package shard_test

import (
	"fmt"
	"testing"

	"federation/api"
	"federation/cmd"
	"federation/shard"
)

func TestReplayOfNothing(t *testing.T) {
	for form := 1; form <= 2; form++ {
		same(t, "Replay of nothing", shard.Replay(form, nil), shard.State{})
		same(t, "Replay of an empty log", shard.Replay(form, []string{}), shard.State{})
		same(t, "Replay of no bytes", shard.Replay(form, []string{""}), shard.State{Stopped: true})
	}
}

// Behind what can't be read nothing is done, wherever it stands.
func TestReplayStops(t *testing.T) {
	l := log(t, lock(1, 5), gate(2), note(3, "hi"), finish(4, 5, commit, put("a", "1")))
	all := shard.State{
		Pairs: pairs("a=1"), Gate: true, Notes: []string{"hi"},
		Made: []shard.Made{{Txn: 5, Commit: true}},
		Told: []shard.Told{{Id: 1, Ok: true}, {Id: 2, Ok: true}, {Id: 3, Ok: true}, {Id: 4, Ok: true}},
	}
	same(t, "a log", shard.Replay(2, l), all)
	same(t, "a log at a node of form 1", shard.Replay(1, l), shard.State{Lock: 5, Gate: true, Told: all.Told[:2], Stopped: true})
	for at := range len(l) + 1 {
		broken := append(append(append([]string(nil), l[:at]...), "?"), l[at:]...)
		want := shard.Replay(2, l[:at])
		want.Stopped = true
		same(t, fmt.Sprint("a log that is broken at ", at), shard.Replay(2, broken), want)
	}
}

// command is any one of few numbers, so that they meet.
func (d *die) command(ids int) api.Cmd {
	c := api.Cmd{Kind: d.of(6), Id: d.of(ids), Txn: d.of(4)}
	switch c.Kind {
	case api.CNote:
		c.Text = one(d, "", "a", "bc")
	case api.CDecide, api.CFinish:
		c.Commit = d.of(3) > 0
		for range d.of(4) {
			c.Writes = append(c.Writes, one(d, put, func(k, _ string) api.Write { return gone(k) }, put)(one(d, "a", "b", "ba", "c"), one(d, "", "1", "22")))
		}
	}
	return c
}

// log is a thrown one; in one of four there is something that can't be read.
func (d *die) log(t *testing.T, size int) []string {
	t.Helper()
	var l []string
	two := d.of(3)
	for range size {
		c := d.command(1 + size)
		form := 1
		if c.Kind == api.CNote || d.of(3) < two {
			form = 2
		}
		l = append(l, bytes(t, c, form))
	}
	if size > 0 && d.of(4) == 0 {
		l[d.of(size)] = one(d, "", "1", "?")
	}
	return l
}

// Replay goes command by command as Apply does, and tells the same of the same.
func TestReplayAsApply(t *testing.T) {
	t.Parallel()
	d := &die{41}
	for range 400 {
		l := d.log(t, d.of(40))
		for form := 1; form <= 2; form++ {
			var s shard.State
			for i := range l {
				s = shard.Apply(s, form, l[i])
				same(t, fmt.Sprintf("Replay of %q", l[:i+1]), shard.Replay(form, l[:i+1]), s)
			}
			same(t, "Replay once more", shard.Replay(form, l), s)
			same(t, "Apply once more", applied(form, l...), s)
			if t.Failed() {
				return
			}
		}
	}
}

// Behind the gate all is as before (T6): commands that are raised to form 2 do the same there; and those of form 1 do
// the same at nodes of either form, on both sides of it.
func TestBehindGate(t *testing.T) {
	t.Parallel()
	d := &die{43}
	for range 400 {
		var l []api.Cmd
		for i := range 30 {
			c := d.command(100)
			if c.Kind == api.CNote || c.Kind == api.CGate {
				c = gate(200 + i)
			}
			l = append(l, c)
		}
		one := log(t, l...)
		want := shard.Replay(1, one)
		same(t, "at a node of form 2", shard.Replay(2, one), want)
		open := false
		for i, data := range one {
			if up, is := cmd.Up(data); is && open {
				one[i] = up
			}
			open = open || l[i].Kind == api.CGate
		}
		same(t, "raised behind the gate", shard.Replay(2, one), want)
		if t.Failed() {
			return
		}
	}
}

// A log may be long.
func TestLongLog(t *testing.T) {
	t.Parallel()
	const size = 100000
	var l []string
	for i := range size {
		l = append(l, bytes(t, decide(i, i+1, i%2 == 0, put("a", "1")), 1))
	}
	s := shard.Replay(1, append(l, l...))
	if len(s.Told) != size || len(s.Made) != size || s.Stopped {
		t.Fatalf("P1001: %d told, %d made, stopped %v", len(s.Told), len(s.Made), s.Stopped)
	}
	for i := range size {
		if s.Told[i].Id != i || s.Made[i].Txn != i+1 || saidMade(s.Told[i].Made) != saidMade(s.Made[i]) {
			t.Fatalf("P1001: %d: %s, %s", i, saidTold(s.Told[i]), saidMade(s.Made[i]))
		}
	}
	for _, i := range []int{0, 1, size / 2, size - 1} {
		answered(t, s, i, s.Told[i])
	}
}
