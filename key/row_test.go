package key_test

import (
	"math"
	"math/big"
	"slices"
	"strings"
	"testing"

	"federation/api"
	"federation/key"
	"federation/val"
)

// die throws numbers that are the same in each run.
type die struct{ n uint64 }

func (d *die) of(k int) int {
	d.n = d.n*6364136223846793005 + 1442695040888963407
	return int(d.n>>33) % k
}

// wide is a number of few or many bits, of either sign.
func (d *die) wide() int {
	n := uint64(d.of(1<<31))<<33 ^ uint64(d.of(1<<31))<<11 ^ uint64(d.of(1<<20))
	return int(n) >> d.of(64)
}

// few are bytes that stand near the marks.
func (d *die) few() string {
	b := make([]byte, d.of(6))
	for i := range b {
		b[i] = "\x00\x01\x02\x1f a~\x7f\xfe\xff"[d.of(10)]
	}
	return string(b)
}

// right is a Right value.
func (d *die) right() api.Value {
	for {
		v := api.Value{Kind: d.of(6)}
		switch v.Kind {
		case api.TBool:
			v.N = d.of(2)
		case api.TInt:
			v.N = d.wide()
		case api.TDec:
			v = val.Norm(dec(d.wide()%bound, d.of(7)))
		case api.TText:
			v.S = strings.Repeat("~", d.of(3)) + strings.Repeat(" ", d.of(2)) + strings.Repeat("a", d.of(3))
		case api.TBytes:
			v.S = d.few()
		}
		if val.Right(v) {
			return v
		}
	}
}

func TestKeysHaveTheOrderOfValues(t *testing.T) {
	d := &die{1}
	for range 50000 {
		a, b := d.right(), d.right()
		if strings.Compare(key.Key(a), key.Key(b)) != val.Order(a, b) {
			t.Fatalf("P202: Keys of %v, %v: %x, %x", a, b, key.Key(a), key.Key(b))
		}
	}
	var l []api.Value
	for v := range written() {
		l = append(l, v)
	}
	for _, a := range l {
		for _, b := range l {
			if strings.Compare(key.Key(a), key.Key(b)) != val.Order(a, b) {
				t.Errorf("P202: Keys of %v, %v: %x, %x", a, b, key.Key(a), key.Key(b))
			}
		}
	}
}

func TestKeysThereAndBack(t *testing.T) {
	d := &die{2}
	for range 50000 {
		want := d.right()
		s := key.Key(want)
		if v, used, is := key.ReadKey(s + d.few()); !is || v != want || used != len(s) {
			t.Fatalf("P202: %v: %x: %v, %d, %v", want, s, v, used, is)
		}
	}
}

// A decimal's number is told by its bytes, whatever its size.
func TestDecimalsAsBytes(t *testing.T) {
	d := &die{3}
	for range 20000 {
		v := val.Norm(dec(d.wide()%bound, d.of(7)))
		s := key.Key(v)
		whole := new(big.Int).SetBytes([]byte(s[1:9]))
		whole.Sub(whole, new(big.Int).Lsh(big.NewInt(1), 63))
		left := new(big.Int).SetBytes([]byte(s[9:]))
		got := new(big.Int).Add(whole.Mul(whole, big.NewInt(1000000)), left)
		scaled := new(big.Int).Exp(big.NewInt(10), big.NewInt(int64(6-v.Scale)), nil)
		if len(s) != 13 || left.Cmp(big.NewInt(1000000)) >= 0 || got.Cmp(scaled.Mul(scaled, big.NewInt(int64(v.N)))) != 0 {
			t.Fatalf("P201: Key of %v: %x", v, s)
		}
	}
}

// Whatever is read is what was written; of each string at most one value is read.
func TestAnyBytesRead(t *testing.T) {
	d := &die{4}
	read := 0
	for range 100000 {
		b := []byte(key.Key(d.right()) + d.few())
		for range 1 + d.of(2) {
			b[d.of(len(b))] ^= byte(1 << d.of(8))
		}
		s := string(b)
		v, used, is := key.ReadKey(s)
		if !is {
			refused(t, s)
			continue
		}
		read++
		if !val.Right(v) || key.Key(v) != s[:used] {
			t.Fatalf("P201: ReadKey of %x: %v, %d", s, v, used)
		}
	}
	if read < 10000 || read > 95000 {
		t.Errorf("the bytes that are thrown are of one sort alone: %d", read)
	}
}

// Every short text of few bytes: ReadKey finds the Key that it begins with, and no other.
func TestShortBytesRead(t *testing.T) {
	known := map[string]api.Value{"\x00": {}, "\x01\x00": flag(0), "\x01\x01": flag(1)}
	var texts []string
	for size := range 5 {
		texts = append(texts, every("\x00\x01\x04\x05\x41\xff", size)...)
	}
	for _, s := range texts {
		for _, v := range []api.Value{text(s), raw(s)} {
			if val.Right(v) {
				known[string([]byte{byte(v.Kind)})+strings.ReplaceAll(s, "\x00", "\x00\xff")+"\x00\x01"] = v
			}
		}
	}
	for size := range 6 {
		for _, s := range every("\x00\x01\x04\x05\x41\xff", size) {
			var want api.Value
			long := 0
			for k := range len(s) {
				if v, is := known[s[:k+1]]; is {
					want, long = v, k+1
				}
			}
			if v, used, is := key.ReadKey(s); is != (long > 0) || v != want || used != long {
				t.Fatalf("P201: ReadKey of %x: %v, %d, %v", s, v, used, is)
			}
		}
	}
}

// every is each text of that size of those bytes.
func every(of string, size int) []string {
	l := []string{""}
	for range size {
		var longer []string
		for _, s := range l {
			for i := range len(of) {
				longer = append(longer, s+of[i:i+1])
			}
		}
		l = longer
	}
	return l
}

func TestRow(t *testing.T) {
	for _, x := range []struct {
		l    []api.Value
		want string
	}{
		{nil, "\x00"},
		{[]api.Value{}, "\x00"},
		{[]api.Value{{}}, "\x01\x00"},
		{[]api.Value{{}, flag(1), {}}, "\x03\x00\x01\x01\x00"},
		{[]api.Value{raw("\x00"), text("b")}, "\x02\x05\x00\xff\x00\x01\x04b\x00\x01"},
		{make([]api.Value, 10), "\x0a" + strings.Repeat("\x00", 10)},
	} {
		if got := key.Row(x.l); got != x.want {
			t.Errorf("P201: Row of %v: %x, not %x", x.l, got, x.want)
		}
		if l, is := key.ReadRow(x.want); !is || !slices.Equal(l, x.l) {
			t.Errorf("P201: ReadRow of %x: %v, %v", x.want, l, is)
		}
	}
}

func TestRowsThereAndBack(t *testing.T) {
	d := &die{5}
	for range 5000 {
		l := make([]api.Value, d.of(11))
		for i := range l {
			l[i] = d.right()
		}
		s := key.Row(l)
		if got, is := key.ReadRow(s); !is || !slices.Equal(got, l) {
			t.Fatalf("P202: %v: %x: %v", l, s, got)
		}
		for k := range s {
			refusedRow(t, s[:k])
		}
		refusedRow(t, s+"\x00")
		refusedRow(t, s+"\xff")
		refusedRow(t, s+key.Key(d.right()))
		for n := range 256 {
			if n != len(l) {
				refusedRow(t, string([]byte{byte(n)})+s[1:])
			}
		}
		b := []byte(s)
		b[d.of(len(b))] = byte(d.of(256))
		if got, is := key.ReadRow(string(b)); is && key.Row(got) != string(b) {
			t.Fatalf("P201: ReadRow of %x: %v", b, got)
		}
	}
}

func refusedRow(t *testing.T, s string) {
	t.Helper()
	if l, is := key.ReadRow(s); is || len(l) > 0 {
		t.Errorf("P201: ReadRow of %x: %v, %v", s, l, is)
	}
}

func TestRowOfNoneIsRefused(t *testing.T) {
	for _, s := range []string{
		"", "\x01", "\x00\x00", "\x02\x00", "\x01\x06", "\x01\x01\x02",
		"\x0b" + strings.Repeat("\x00", 11), "\xff" + strings.Repeat("\x00", 255), "\x00" + strings.Repeat("\x00", 256),
		"\x01\x04" + strings.Repeat("a", 41) + "\x00\x01",
	} {
		refusedRow(t, s)
	}
}

// What is handed in is not changed, and an answer shares nothing with it or another answer (P2).
func TestRowsAreNewMemory(t *testing.T) {
	l := make([]api.Value, 2, 5)
	l[0], l[1] = num(1), text("a")
	s := key.Row(l)
	if !slices.Equal(l[:5], []api.Value{num(1), text("a"), {}, {}, {}}) {
		t.Errorf("P2: Row changed its list: %v", l[:5])
	}
	a, _ := key.ReadRow(s)
	b, _ := key.ReadRow(s)
	clear(a[:cap(a)])
	if !slices.Equal(b, l) {
		t.Errorf("P2: two answers share memory: %v", b)
	}
	if again, is := key.ReadRow(key.Row([]api.Value{num(math.MaxInt)})); !is || again[0].N != math.MaxInt {
		t.Errorf("P201: ReadRow: %v, %v", again, is)
	}
}
