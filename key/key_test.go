package key_test

import (
	"math"
	"strings"
	"testing"

	"federation/api"
	"federation/key"
)

const bound = 1_000_000_000_000_000

func flag(n int) api.Value { return api.Value{Kind: api.TBool, N: n} }

func num(n int) api.Value { return api.Value{Kind: api.TInt, N: n} }

func dec(n, scale int) api.Value { return api.Value{Kind: api.TDec, N: n, Scale: scale} }

func text(s string) api.Value { return api.Value{Kind: api.TText, S: s} }

func raw(s string) api.Value { return api.Value{Kind: api.TBytes, S: s} }

// written are values and their Keys.
func written() map[api.Value]string {
	return map[api.Value]string{
		{}:      "\x00",
		flag(0): "\x01\x00",
		flag(1): "\x01\x01",

		num(0):               "\x02\x80\x00\x00\x00\x00\x00\x00\x00",
		num(0x0102030405):    "\x02\x80\x00\x00\x01\x02\x03\x04\x05",
		num(-1):              "\x02\x7f\xff\xff\xff\xff\xff\xff\xff",
		num(-256):            "\x02\x7f\xff\xff\xff\xff\xff\xff\x00",
		num(math.MaxInt):     "\x02\xff\xff\xff\xff\xff\xff\xff\xff",
		num(math.MinInt):     "\x02\x00\x00\x00\x00\x00\x00\x00\x00",
		num(math.MinInt + 1): "\x02\x00\x00\x00\x00\x00\x00\x00\x01",

		dec(0, 0):       "\x03\x80\x00\x00\x00\x00\x00\x00\x00\x00\x00\x00\x00",
		dec(7, 0):       "\x03\x80\x00\x00\x00\x00\x00\x00\x07\x00\x00\x00\x00",
		dec(-7, 0):      "\x03\x7f\xff\xff\xff\xff\xff\xff\xf9\x00\x00\x00\x00",
		dec(25, 1):      "\x03\x80\x00\x00\x00\x00\x00\x00\x02\x00\x07\xa1\x20",
		dec(-25, 1):     "\x03\x7f\xff\xff\xff\xff\xff\xff\xfd\x00\x07\xa1\x20",
		dec(1, 6):       "\x03\x80\x00\x00\x00\x00\x00\x00\x00\x00\x00\x00\x01",
		dec(-1, 6):      "\x03\x7f\xff\xff\xff\xff\xff\xff\xff\x00\x0f\x42\x3f",
		dec(1, 3):       "\x03\x80\x00\x00\x00\x00\x00\x00\x00\x00\x00\x03\xe8",
		dec(bound-1, 0): "\x03\x80\x03\x8d\x7e\xa4\xc6\x7f\xff\x00\x00\x00\x00",
		dec(1-bound, 0): "\x03\x7f\xfc\x72\x81\x5b\x39\x80\x01\x00\x00\x00\x00",
		dec(bound-1, 6): "\x03\x80\x00\x00\x00\x3b\x9a\xc9\xff\x00\x0f\x42\x3f",
		dec(1-bound, 6): "\x03\x7f\xff\xff\xff\xc4\x65\x36\x00\x00\x00\x00\x01",

		text(""):                        "\x04\x00\x01",
		text("a ~"):                     "\x04a ~\x00\x01",
		text(strings.Repeat("x", 40)):   "\x04" + strings.Repeat("x", 40) + "\x00\x01",
		raw(""):                         "\x05\x00\x01",
		raw("\x00"):                     "\x05\x00\xff\x00\x01",
		raw("\x00\x01"):                 "\x05\x00\xff\x01\x00\x01",
		raw("\xff\x00\x00\xff"):         "\x05\xff\x00\xff\x00\xff\xff\x00\x01",
		raw(strings.Repeat("\x00", 40)): "\x05" + strings.Repeat("\x00\xff", 40) + "\x00\x01",
	}
}

func TestKeyIsWritten(t *testing.T) {
	for v, want := range written() {
		if got := key.Key(v); got != want {
			t.Errorf("P201: Key of %v: %x, not %x", v, got, want)
		}
	}
}

func TestKeyIsRead(t *testing.T) {
	for want, s := range written() {
		for _, behind := range []string{"", "\x00", "\xff", "\x01", "\x00\x01", s} {
			if v, used, is := key.ReadKey(s + behind); !is || v != want || used != len(s) {
				t.Errorf("P201: ReadKey of %x with %x behind: %v, %d, %v", s, behind, v, used, is)
			}
		}
		for k := range s {
			refused(t, s[:k])
		}
	}
}

// refused holds that s begins with no Key, and that zero values stand beside the false (P4).
func refused(t *testing.T, s string) {
	t.Helper()
	if v, used, is := key.ReadKey(s); is || used != 0 || v != (api.Value{}) {
		t.Errorf("P201: ReadKey of %x: %v, %d, %v", s, v, used, is)
	}
}

func TestKeyOfNoValueIsRefused(t *testing.T) {
	for _, s := range []string{
		"", "\x06", "\x06\x00\x01", "\x80", "\xff\x00",
		"\x01\x02", "\x01\xff",
		"\x03\x80\x00\x00\x00\x00\x00\x00\x00\x00\x0f\x42\x40", // a whole million of millionths
		"\x03\x80\x00\x00\x00\x00\x00\x00\x00\xff\xff\xff\xff",
		"\x03\x80\x03\x8d\x7e\xa4\xc6\x80\x00\x00\x00\x00\x00", // 10^15
		"\x03\x80\x03\x8d\x7e\xa4\xc6\x7f\xff\x00\x00\x00\x01", // a millionth above 10^15 - 1
		"\x03\x80\x03\x8d\x7e\xa4\xc6\x7f\xff\x00\x07\xa1\x20", // a half above it
		"\x03\x7f\xfc\x72\x81\x5b\x39\x80\x00\x00\x00\x00\x00", // -10^15
		"\x03\x7f\xfc\x72\x81\x5b\x39\x80\x00\x00\x00\x00\x01",
		"\x03\x80\x00\x00\x00\x3b\x9a\xca\x00\x00\x00\x00\x01", // 10^9 and a millionth
		"\x03\x7f\xff\xff\xff\xc4\x65\x35\xff\x00\x0f\x42\x3f", // a millionth below -10^9
		"\x03\xff\xff\xff\xff\xff\xff\xff\xff\x00\x00\x00\x00",
		"\x03\x00\x00\x00\x00\x00\x00\x00\x00\x00\x00\x00\x01",
		"\x03\x80\x00\x10\xc6\xf7\xa0\xb5\xee\x00\x00\x00\x01", // times 10^6 it wraps to a small number
		"\x04a\x00\x02", "\x04a\x00\x00\x01", "\x04a\x00", "\x04a\x00\xff", "\x04\x00\xff\x00\x01",
		"\x04\x1f\x00\x01", "\x04\x7f\x00\x01", "\x04\xc3\xa9\x00\x01",
		"\x04" + strings.Repeat("a", 41) + "\x00\x01",
		"\x05" + strings.Repeat("a", 41) + "\x00\x01",
		"\x05" + strings.Repeat("\x00\xff", 41) + "\x00\x01",
		"\x05\x00\xfe\x00\x01", "\x05\x00\x00", "\x05\xff", "\x05\x00\xff",
	} {
		refused(t, s)
	}
	for kind := 6; kind < 256; kind++ {
		refused(t, string([]byte{byte(kind)})+"\x00\x01\x00\x00\x00\x00\x00\x00\x00\x00\x00\x00")
	}
}

// What may not be handed in: the calls end and do not panic (P1).
func TestKeyOfWrongValues(t *testing.T) {
	l := []api.Value{
		{N: 1}, flag(2), flag(math.MinInt), {Kind: 6}, {Kind: -1}, {Kind: math.MaxInt}, {Kind: math.MinInt},
		text("\x00"), text(strings.Repeat("\x00", 1000)), raw(strings.Repeat("a", 1000)),
	}
	for _, n := range []int{math.MinInt, -10, -1, 0, 1, 10, math.MaxInt} {
		for _, scale := range []int{math.MinInt, -7, -1, 0, 6, 7, 19, 64, math.MaxInt} {
			l = append(l, dec(n, scale))
		}
	}
	for _, v := range l {
		if key.Key(v) != key.Key(v) {
			t.Errorf("P3: Key of %v", v)
		}
	}
	long := make([]api.Value, 1000)
	if key.Row(long) != key.Row(long) || key.Row(l) != key.Row(l) {
		t.Error("P3: Row")
	}
}
