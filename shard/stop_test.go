package shard_test

import (
	"fmt"
	"testing"

	"federation/api"
	"federation/cmd"
	"federation/shard"
)

// unread are data that are no command: none at all, broken ones, and such as are no command of any form.
func unread(t *testing.T) []string {
	t.Helper()
	good, two := bytes(t, decide(7, 1, commit, put("a", "1")), 1), bytes(t, note(7, "hi"), 2)
	return []string{
		"", "x", "1", "2", "0" + good[1:], "3" + good[1:], good[:len(good)-1], good + "\x00", good + good, "\x00" + good,
		two[:len(two)-1], two + "\x00", "1" + two[1:], "2" + good[1:], "1\x05" + good[2:], "1\x06" + good[2:], "2\x00\x80\x00\x00\x00\x00\x00",
	}
}

// whole are states in which a stop may come.
func whole() []shard.State {
	open, free := some(), some()
	open.Gate, free.Lock = true, 0
	return []shard.State{{}, {Gate: true}, some(), open, free}
}

// What can't be read stops the state, which else stays as it is.
func TestUnreadStops(t *testing.T) {
	for _, s := range whole() {
		want := s
		want.Stopped = true
		for _, data := range unread(t) {
			for form := 1; form <= 2; form++ {
				same(t, fmt.Sprintf("%q at a node of form %d", data, form), shard.Apply(s, form, data), want)
			}
		}
	}
}

// So does, of a node of form 1, form 2: also if the Id is told, and on either side of the gate.
func TestFormAboveStops(t *testing.T) {
	for _, s := range whole() {
		want := s
		want.Stopped = true
		for _, c := range kinds() {
			for _, c.Id = range []int{7, 1, 2} {
				same(t, fmt.Sprint(c, " in form 2 at a node of form 1"), shard.Apply(s, 1, bytes(t, c, 2)), want)
			}
		}
	}
}

// A stopped state stays as it is, whatever comes.
func TestStoppedStays(t *testing.T) {
	for _, s := range whole() {
		s.Stopped = true
		for form := 1; form <= 2; form++ {
			for _, data := range unread(t) {
				same(t, fmt.Sprintf("%q, stopped", data), shard.Apply(s, form, data), s)
			}
			for _, c := range kinds() {
				if c.Kind != api.CNote {
					same(t, fmt.Sprint(c, ", stopped"), shard.Apply(s, form, bytes(t, c, 1)), s)
				}
				same(t, fmt.Sprint(c, " in form 2, stopped"), shard.Apply(s, form, bytes(t, c, 2)), s)
			}
		}
	}
}

// What is bent a little is a command or stops.
func TestBentData(t *testing.T) {
	d := &die{31}
	stops := 0
	for range 4000 {
		c := one(d, kinds()...)
		form := 2
		if c.Kind != api.CNote {
			form = 1 + d.of(2)
		}
		b := []byte(bytes(t, c, form))
		switch at := d.of(len(b)); d.of(3) {
		case 0:
			b[at] ^= 1 << d.of(8)
		case 1:
			b = b[:at]
		case 2:
			b = append(b, byte(d.of(256)))
		}
		for _, s := range whole() {
			for node := 1; node <= 2; node++ {
				got := shard.Apply(s, node, string(b))
				_, of, is := cmd.Decode(string(b))
				if got.Stopped != (!is || of > node) {
					t.Fatalf("P1001: %q at a node of form %d: stopped %v", b, node, got.Stopped)
				}
				if got.Stopped {
					s.Stopped = true
					same(t, fmt.Sprintf("%q", b), got, s)
					s.Stopped = false
					stops++
				}
			}
		}
	}
	if stops < 10000 {
		t.Errorf("only %d stops", stops)
	}
}
