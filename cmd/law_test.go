package cmd_test

import (
	"encoding/binary"
	"fmt"
	"slices"
	"testing"

	"federation/api"
	"federation/cmd"
)

// law reads bytes by the chapter's words, each of which is held as soon as it is read; whoever finds it broken panics
// with broken.
type law struct {
	rest []byte
	form int
}

type broken struct{}

func hold(is bool) {
	if !is {
		panic(broken{})
	}
}

func (l *law) bytes(n int) []byte {
	hold(n <= len(l.rest))
	b := l.rest[:n]
	l.rest = l.rest[n:]
	return b
}

func (l *law) oneByte(most byte) int {
	b := l.bytes(1)[0]
	hold(b <= most)
	return int(b)
}

// short is a number of form 2: a last byte of 0 behind others would be one too many.
func (l *law) short() int {
	n, used := binary.Uvarint(l.rest)
	hold(used > 0 && n < 1<<63)
	b := l.bytes(used)
	hold(used == 1 || b[used-1] != 0)
	return int(n)
}

func (l *law) wide() int {
	if l.form == 2 {
		return l.short()
	}
	n := binary.BigEndian.Uint64(l.bytes(8))
	hold(n < 1<<63)
	return int(n)
}

func (l *law) size(least, most int) int {
	var n int
	if l.form == 2 {
		n = l.short()
	} else {
		n = int(binary.BigEndian.Uint16(l.bytes(2)))
	}
	hold(least <= n && n <= most)
	return n
}

func (l *law) write() api.Write {
	var w api.Write
	if l.form == 2 {
		w.Gone = l.oneByte(1) == 1
		w.K = string(l.bytes(l.size(1, 300)))
		if !w.Gone {
			w.V = string(l.bytes(l.size(0, 4000)))
		}
		return w
	}
	w.K = string(l.bytes(l.size(1, 300)))
	w.V = string(l.bytes(l.size(0, 4000)))
	w.Gone = l.oneByte(1) == 1
	hold(!w.Gone || w.V == "")
	return w
}

func (l *law) command() api.Cmd {
	l.form = int(l.bytes(1)[0]) - '0'
	hold(l.form == 1 || l.form == 2)
	c := api.Cmd{Kind: l.oneByte(5), Id: l.wide(), Txn: l.wide(), Commit: l.oneByte(1) == 1}
	for range l.size(0, 1000) {
		c.Writes = append(c.Writes, l.write())
	}
	if l.form == 2 {
		c.Text = string(l.bytes(l.size(0, 40)))
	}
	decides := c.Kind == api.CDecide || c.Kind == api.CFinish
	hold(decides || !c.Commit && len(c.Writes) == 0)
	hold(c.Kind == api.CNote && l.form == 2 || c.Kind != api.CNote && c.Text == "")
	hold(len(l.rest) == 0)
	return c
}

func lawRead(s string) (c api.Cmd, form int, is bool) {
	l := law{rest: []byte(s)}
	defer func() {
		if x := recover(); x != nil && x != (broken{}) {
			panic(x)
		}
		if !is {
			c, form = api.Cmd{}, 0
		}
	}()
	c = l.command()
	return c, l.form, true
}

// lawful holds that Decode and Up of s are as the chapter's words have them, and says whether s is a command.
func lawful(t *testing.T, s string) bool {
	t.Helper()
	c, form, is := lawRead(s)
	if !is {
		none(t, s)
		return false
	}
	if again := encoded(t, c, form); again != s {
		t.Errorf("P701: Encode of %s in form %d: %s, not %s", shown(said(c)), form, shown(again), shown(s))
	}
	two := encoded(t, c, 2)
	decodes(t, s, c, form, two)
	if x, n, is := lawRead(two); !is || n != 2 || said(x) != said(c) {
		t.Errorf("P702: %s is raised to %s: %s", shown(s), shown(two), shown(said(x)))
	}
	return true
}

// What is thrown is written, read and raised; and bytes of it that are bent are a command only by the words.
func TestLaw(t *testing.T) {
	t.Parallel()
	d := &die{7}
	still := 0
	for range 4000 {
		c := d.command(d.of(6))
		form := 2
		if c.Kind != api.CNote {
			form = one(d, 1, 2)
		}
		s := encoded(t, c, form)
		if !lawful(t, s) {
			t.Fatalf("P701: Encode of %s in form %d: %s", shown(said(c)), form, shown(s))
		}
		for range 10 {
			b := []byte(s)
			for range 1 + d.of(3) {
				b = d.bend(b)
			}
			if lawful(t, string(b)) {
				still++
			}
		}
	}
	if still < 1000 {
		t.Errorf("only %d of the bent bytes are commands", still)
	}
}

// bend changes bytes somewhere, more often ahead, where they tell more.
func (d *die) bend(b []byte) []byte {
	if len(b) == 0 {
		return []byte(d.text(1))
	}
	at := d.of(len(b))
	if d.of(2) == 0 {
		at = d.of(min(len(b), 24))
	}
	switch d.of(8) {
	case 0:
		return b[:at]
	case 1:
		return append(b, d.text(1+d.of(3))...)
	case 2:
		return slices.Insert(b, at, d.text(1)[0])
	case 3:
		return slices.Delete(b, at, at+1)
	case 4, 5:
		b[at] ^= 1 << d.of(8)
	case 6:
		b[at]++
	case 7:
		b[at] = byte(one(d, 0, 1, 2, 5, 127, 128, 255, '1', '2'))
	}
	return b
}

// All bytes up to a size of some few kinds, behind a beginning.
func TestShortBytes(t *testing.T) {
	t.Parallel()
	for _, x := range []struct {
		ahead, of string
		size      int
	}{
		{"", "\x00\x01\x0212\x05", 6},
		{"2", "\x00\x01\x02\x05\x80", 7},
		{"2\x02\x00\x00\x01", "\x00\x01\x02k\x80", 7},
		{"2\x05\x00", "\x00\x01\x02\x80x", 6},
		{"1\x03" + zeros + "\x01" + zeros + "\x02", "\x00\x01\x02k", 8},
	} {
		t.Run(fmt.Sprintf("%q", x.ahead), func(t *testing.T) {
			t.Parallel()
			count := every(x.of, x.size, func(s string) bool { return lawful(t, x.ahead+s) })
			if x.ahead != "" && count == 0 {
				t.Errorf("none behind %q is a command", x.ahead)
			}
		})
	}
}

// every counts the texts of at most size bytes of those in of which f holds.
func every(of string, size int, f func(string) bool) int {
	count := 0
	var grow func(b []byte)
	grow = func(b []byte) {
		if f(string(b)) {
			count++
		}
		if len(b) == size {
			return
		}
		for i := range len(of) {
			grow(append(b, of[i]))
		}
	}
	grow(nil)
	return count
}

// All that is thrown may be not right: Encode is false, or Decode has it again.
func TestWrongCommands(t *testing.T) {
	t.Parallel()
	d := &die{8}
	for range 20000 {
		c := d.command(d.of(6))
		for range 1 + d.of(2) {
			d.spoil(&c)
		}
		form := one(d, 0, 1, 1, 1, 2, 2, 2, 3)
		s, is := cmd.Encode(c, form)
		if is != (lawRight(c) && (form == 2 || form == 1 && c.Kind != api.CNote)) {
			t.Fatalf("P701: Encode of %s in form %d: %v", shown(said(c)), form, is)
		}
		if !is && s != "" {
			t.Fatalf("P4: Encode of %s in form %d: %q", shown(said(c)), form, s)
		}
		if x, n, has := cmd.Decode(s); has != is || is && (n != form || said(x) != said(c)) {
			t.Fatalf("P701: Decode of %s: %s, %d, %v", shown(s), shown(said(x)), n, has)
		}
	}
}

func (d *die) spoil(c *api.Cmd) {
	switch d.of(7) {
	case 0:
		c.Kind = d.of(9) - 1
	case 1:
		c.Id = one(d, -1<<63, -1, 0, 1<<63-1)
	case 2:
		c.Txn = one(d, -1<<63, -1, 0, 1<<63-1)
	case 3:
		c.Commit = !c.Commit
	case 4:
		c.Text = repeat(one(d, 0, 1, 39, 40, 41))
	case 5:
		w := api.Write{K: repeat(one(d, 0, 1, 299, 300, 301)), V: repeat(one(d, 0, 1, 3999, 4000, 4001)), Gone: d.of(3) == 0}
		c.Writes = slices.Insert(c.Writes, d.of(len(c.Writes)+1), w)
	case 6:
		c.Writes = append(c.Writes, writes(one(d, 1, 996, 1000-min(len(c.Writes), 1000), 1001))...)
	}
}

// lawRight says by the chapter's words whether c is right.
func lawRight(c api.Cmd) bool {
	is := slices.Contains([]int{0, 1, 2, 3, 4, 5}, c.Kind)
	is = is && c.Id >= 0 && c.Txn >= 0
	if c.Kind != api.CDecide && c.Kind != api.CFinish {
		is = is && !c.Commit && len(c.Writes) == 0
	}
	is = is && len(c.Writes) <= 1000
	for _, w := range c.Writes {
		is = is && len(w.K) >= 1 && len(w.K) <= 300 && len(w.V) <= 4000 && !(w.Gone && len(w.V) > 0)
	}
	if c.Kind == api.CNote {
		return is && len(c.Text) <= 40
	}
	return is && c.Text == ""
}
