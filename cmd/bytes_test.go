package cmd_test

import (
	"math/bits"
	"runtime"
	"strings"
	"testing"

	"federation/api"
	"federation/cmd"
)

// short is a number, seven bits a byte, with so many bytes more than it needs.
func short(n, spare int) string {
	var b []byte
	for ; n >= 128; n /= 128 {
		b = append(b, byte(n%128+128))
	}
	b = append(b, byte(n))
	for range spare {
		b[len(b)-1] += 128
		b = append(b, 0)
	}
	return string(b)
}

// A number has one byte for each seven of its bits, and no more.
func TestNumbersAreShort(t *testing.T) {
	empty := len(encoded(t, api.Cmd{}, 2))
	for i := range 64 {
		for _, n := range []int{1<<i - 1, 1<<i - 2, 1 << i, 1<<i + 1} {
			if n < 0 {
				continue
			}
			size := max(1, (bits.Len(uint(n))+6)/7)
			for _, c := range []api.Cmd{{Id: n}, {Txn: n}} {
				if s := encoded(t, c, 2); len(s) != empty-1+size {
					t.Errorf("P701: Encode of %s: %q", said(c), s)
				}
				if s := encoded(t, c, 1); len(s) != 21 {
					t.Errorf("P701: Encode of %s: %q", said(c), s)
				}
				taken(t, c)
			}
		}
	}
}

// Each number of form 2 that is written longer than it needs is refused.
func TestNumbersWrittenLonger(t *testing.T) {
	for _, n := range []int{0, 1, 2, 40, 127, 128, 300, 16383, 16384, 1 << 62, 1<<63 - 1} {
		for spare := range 12 {
			good := spare == 0
			id := "2\x04" + short(n, spare) + "\x00\x00\x00\x00"
			txn := "2\x04\x00" + short(n, spare) + "\x00\x00\x00"
			if lawful(t, id) != good || lawful(t, txn) != good {
				t.Errorf("P701: %d with %d bytes more", n, spare)
			}
		}
	}
	for spare := range 12 {
		good := spare == 0
		for i, s := range []string{
			"2\x04\x00\x00\x00" + short(0, spare) + "\x00",
			"2\x02\x00\x00\x00" + short(1, spare) + "\x00\x01k\x01v\x00",
			"2\x02\x00\x00\x00\x01\x00" + short(1, spare) + "k\x01v\x00",
			"2\x02\x00\x00\x00\x01\x01" + short(1, spare) + "k\x00",
			"2\x02\x00\x00\x00\x01\x00\x01k" + short(1, spare) + "v\x00",
			"2\x02\x00\x00\x00\x01\x00\x01k" + short(0, spare) + "\x00",
			"2\x02\x00\x00\x00\x01\x00\x01k\x01v" + short(0, spare),
			"2\x05\x00\x00\x00\x00" + short(0, spare),
			"2\x05\x00\x00\x00\x00" + short(3, spare) + "abc",
			"2\x02\x00\x00\x00\x01\x00" + short(300, spare) + repeat(300) + "\x00\x00",
			"2\x02\x00\x00\x00\x01\x00\x01k" + short(4000, spare) + repeat(4000) + "\x00",
		} {
			if lawful(t, s) != good {
				t.Errorf("P701: place %d with %d bytes more", i, spare)
			}
		}
	}
}

// Numbers that no int has: the bits above wrap round, or fall out.
func TestNumbersBeyond(t *testing.T) {
	nine := strings.Repeat("\xff", 8)
	lawful(t, "2\x00"+nine+"\x7f\x00\x00\x00\x00")
	for _, n := range []string{
		nine + "\xff\x00", nine + "\xff\x01", nine + "\xff\x02", nine + "\xff\x7f", nine + "\xff\xff\x01",
		"\x80\x80\x80\x80\x80\x80\x80\x80\x80\x01", "\x80\x80\x80\x80\x80\x80\x80\x80\x80\x02",
		"\x81\x80\x80\x80\x80\x80\x80\x80\x80\x02", "\x81\x80\x80\x80\x80\x80\x80\x80\x80\x80\x01",
		strings.Repeat("\x80", 1000) + "\x01", strings.Repeat("\xff", 1000),
	} {
		none(t, "2\x04"+n+"\x00\x00\x00\x00")
		none(t, "2\x04\x00"+n+"\x00\x00\x00")
		none(t, "2\x02\x00\x00\x00"+n+"\x00\x01k\x01v\x00")
		none(t, "2\x02\x00\x00\x00\x01\x00"+n+"k\x01v\x00")
		none(t, "2\x02\x00\x00\x00\x01\x00\x01k"+n+"v\x00")
		none(t, "2\x02\x00\x00\x00\x01\x00\x01k\x01v"+n)
		none(t, "2\x05\x00\x00\x00\x00"+n+"x")
	}
	for _, id := range []string{"\x80" + zeros, "\xff" + zeros, strings.Repeat("\xff", 8)} {
		none(t, "1\x04"+id+zeros+"\x00\x00\x00\x00")
		none(t, "1\x04"+zeros+"\x00"+id+"\x00\x00\x00")
	}
}

// One beyond each limit, as bytes.
func TestBytesBeyondLimits(t *testing.T) {
	ones := "1\x02" + zeros + "\x00" + zeros + "\x00\x00"
	twos := "2\x02\x00\x00\x00"
	for i, x := range []struct {
		good, bad string
	}{
		{ones + "\x03\xe8" + strings.Repeat("\x00\x01k\x00\x00\x00", 1000), ones + "\x03\xe9" + strings.Repeat("\x00\x01k\x00\x00\x00", 1001)},
		{twos + "\xe8\x07" + strings.Repeat("\x00\x01k\x00", 1000) + "\x00", twos + "\xe9\x07" + strings.Repeat("\x00\x01k\x00", 1001) + "\x00"},
		{ones + "\x00\x01\x01\x2c" + repeat(300) + "\x00\x00\x00", ones + "\x00\x01\x01\x2d" + repeat(301) + "\x00\x00\x00"},
		{twos + "\x01\x00\xac\x02" + repeat(300) + "\x00\x00", twos + "\x01\x00\xad\x02" + repeat(301) + "\x00\x00"},
		{ones + "\x00\x01\x00\x01k\x0f\xa0" + repeat(4000) + "\x00", ones + "\x00\x01\x00\x01k\x0f\xa1" + repeat(4001) + "\x00"},
		{twos + "\x01\x00\x01k\xa0\x1f" + repeat(4000) + "\x00", twos + "\x01\x00\x01k\xa1\x1f" + repeat(4001) + "\x00"},
		{ones + "\x00\x01\x00\x01k\x00\x00\x01", ones + "\x00\x01\x00\x00\x00\x00\x01"},
		{ones + "\x00\x01\x00\x01k\x00\x01v\x00", ones + "\x00\x01\x00\x01k\x00\x01v\x01"},
		{twos + "\x01\x01\x01k\x00", twos + "\x01\x01\x00\x00"},
		{twos + "\x01\x01\x01k\x00", twos + "\x01\x01\x01k\x01v\x00"},
		{"2\x05\x00\x00\x00\x00\x28" + repeat(40), "2\x05\x00\x00\x00\x00\x29" + repeat(41)},
		{twos + "\x00\x00", twos + "\x00\x01x"},
		{"2\x05\x00\x00\x00\x00\x01x", "2\x04\x00\x00\x00\x00\x01x"},
		{"2\x05\x00\x00\x00\x00\x01x", "2\x06\x00\x00\x00\x00\x01x"},
		{"2\x05\x00\x00\x00\x00\x01x", "2\x05\x00\x00\x01\x00\x01x"},
		{"2\x03\x00\x00\x01\x00\x00", "2\x03\x00\x00\x02\x00\x00"},
		{"1\x04" + zeros + "\x00" + zeros + "\x00\x00\x00\x00", "1\x05" + zeros + "\x00" + zeros + "\x00\x00\x00\x00"},
	} {
		if !lawful(t, x.good) || lawful(t, x.bad) {
			t.Errorf("P701: limit %d", i)
		}
	}
}

// Cut off anywhere, a command is none; and none with more behind it.
func TestCutAndGoneOn(t *testing.T) {
	t.Parallel()
	for _, k := range knowns() {
		for _, s := range []string{k.one, k.two} {
			if s == "" {
				continue
			}
			step := max(1, len(s)/3000)
			for at := 0; at < len(s); at += step {
				none(t, s[:at])
			}
			none(t, s[:len(s)-1])
			none(t, s[1:])
			for b := range 256 {
				none(t, s+string([]byte{byte(b)}))
			}
			none(t, s+s)
			none(t, " "+s)
		}
	}
}

// With one byte turned to any other, bytes are a command only by the words: never the same one.
func TestOneByteTurned(t *testing.T) {
	t.Parallel()
	for _, k := range knowns() {
		for _, s := range []string{k.one, k.two} {
			if len(s) > 200 {
				continue
			}
			b := []byte(s)
			for at := range b {
				for x := range 256 {
					if b[at] = byte(x); string(b) != s && lawful(t, string(b)) {
						turned(t, string(b), k.c)
					}
				}
				b[at] = s[at]
			}
		}
	}
}

func turned(t *testing.T, s string, was api.Cmd) {
	t.Helper()
	if c, _, _ := cmd.Decode(s); said(c) == said(was) {
		t.Errorf("P701: %q is %s too", s, said(c))
	}
}

// The first byte alone says the form.
func TestNoOtherForm(t *testing.T) {
	none(t, "")
	for b := range 256 {
		mark := string([]byte{byte(b)})
		none(t, mark)
		if mark != "1" {
			none(t, mark+"\x00"+zeros+"\x00"+zeros+"\x00\x00\x00\x00")
		}
		if mark != "2" {
			none(t, mark+"\x00\x00\x00\x00\x00\x00")
		}
	}
}

// Bytes that tell of much more than a command has are refused without making room for it, be it there or not (P1).
func TestMuchIsTold(t *testing.T) {
	l := []string{
		"1\x02" + zeros + "\x00" + zeros + "\x00\x00\xff\xff" + strings.Repeat("\x00\x01k\x00\x00\x00", 65535),
		strings.Repeat("1", 1<<24), strings.Repeat("2", 1<<24), strings.Repeat("2\x02\x00", 1<<24), strings.Repeat("\x80", 1<<24),
	}
	for _, n := range []int{1001, 65535, 1 << 20, 1 << 31, 1 << 40, 1<<63 - 1} {
		l = append(l,
			"2\x02\x00\x00\x00"+short(n, 0),
			"2\x02\x00\x00\x00"+short(n, 0)+strings.Repeat("\x00\x01k\x00", 70000),
			"2\x02\x00\x00\x00\x01\x00"+short(n, 0),
			"2\x02\x00\x00\x00\x01\x00"+short(n, 0)+repeat(1<<22),
			"2\x02\x00\x00\x00\x01\x00\x01k"+short(n, 0)+repeat(1<<22),
			"2\x05\x00\x00\x00\x00"+short(n, 0)+repeat(1<<22),
		)
	}
	for _, s := range l {
		before := made()
		cmd.Decode(s)
		cmd.Up(s)
		if room := made() - before; room > 1<<20 {
			t.Errorf("P1: Decode and Up of %d bytes made room for %d: %s", len(s), room, shown(s))
		}
		none(t, s)
	}
}

// made is how many bytes the program has made room for till now.
func made() uint64 {
	var m runtime.MemStats
	runtime.ReadMemStats(&m)
	return m.TotalAlloc
}
