package cmd_test

import (
	"strings"
	"testing"

	"federation/api"
	"federation/cmd"
)

// known is a command as bytes of both forms; none of form 1, if one is empty.
type known struct {
	c        api.Cmd
	one, two string
}

const zeros = "\x00\x00\x00\x00\x00\x00\x00"

func knowns() []known {
	const id, high = zeros + "\x09", "\x7f\xff\xff\xff\xff\xff\xff\xff"
	const short = "\xff\xff\xff\xff\xff\xff\xff\xff\x7f"
	k300, v4000 := strings.Repeat("k", 300), strings.Repeat("v", 4000)
	return []known{
		{api.Cmd{}, "1\x00" + zeros + "\x00" + zeros + "\x00\x00\x00\x00", "2\x00\x00\x00\x00\x00\x00"},
		{api.Cmd{Id: 9, Txn: 127}, "1\x00" + id + zeros + "\x7f\x00\x00\x00", "2\x00\x09\x7f\x00\x00\x00"},
		{api.Cmd{Id: 128, Txn: 255}, "1\x00" + zeros + "\x80" + zeros + "\xff\x00\x00\x00", "2\x00\x80\x01\xff\x01\x00\x00\x00"},
		{
			api.Cmd{Kind: api.CLock, Id: 0x0102030405060708, Txn: 1<<63 - 1},
			"1\x01\x01\x02\x03\x04\x05\x06\x07\x08" + high + "\x00\x00\x00",
			"2\x01\x88\x8e\x98\xa8\xc0\xe0\x80\x81\x01" + short + "\x00\x00\x00",
		},
		{api.Cmd{Kind: api.CDecide, Id: 9}, "1\x02" + id + zeros + "\x00\x00\x00\x00", "2\x02\x09\x00\x00\x00\x00"},
		{api.Cmd{Kind: api.CDecide, Id: 9, Commit: true}, "1\x02" + id + zeros + "\x00\x01\x00\x00", "2\x02\x09\x00\x01\x00\x00"},
		{
			api.Cmd{Kind: api.CDecide, Id: 9, Txn: 3, Commit: true, Writes: []api.Write{{K: "ab", V: "xyz"}, {K: "c", Gone: true}, {K: "\x00"}}},
			"1\x02" + id + zeros + "\x03\x01\x00\x03\x00\x02ab\x00\x03xyz\x00\x00\x01c\x00\x00\x01\x00\x01\x00\x00\x00\x00",
			"2\x02\x09\x03\x01\x03\x00\x02ab\x03xyz\x01\x01c\x00\x01\x00\x00\x00",
		},
		{
			api.Cmd{Kind: api.CFinish, Id: 9, Writes: []api.Write{{K: "c", V: "\xff"}, {K: "c", V: "\x00\x00"}, {K: "b"}}},
			"1\x03" + id + zeros + "\x00\x00\x00\x03\x00\x01c\x00\x01\xff\x00\x00\x01c\x00\x02\x00\x00\x00\x00\x01b\x00\x00\x00",
			"2\x03\x09\x00\x00\x03\x00\x01c\x01\xff\x00\x01c\x02\x00\x00\x00\x01b\x00\x00",
		},
		{
			api.Cmd{Kind: api.CFinish, Id: 9, Commit: true, Writes: []api.Write{{K: k300, V: v4000}, {K: k300, Gone: true}}},
			"1\x03" + id + zeros + "\x00\x01\x00\x02\x01\x2c" + k300 + "\x0f\xa0" + v4000 + "\x00\x01\x2c" + k300 + "\x00\x00\x01",
			"2\x03\x09\x00\x01\x02\x00\xac\x02" + k300 + "\xa0\x1f" + v4000 + "\x01\xac\x02" + k300 + "\x00",
		},
		{
			api.Cmd{Kind: api.CDecide, Writes: writes(1000)},
			"1\x02" + zeros + "\x00" + zeros + "\x00\x00\x03\xe8" + strings.Repeat("\x00\x01k\x00\x00\x00", 1000),
			"2\x02\x00\x00\x00\xe8\x07" + strings.Repeat("\x00\x01k\x00", 1000) + "\x00",
		},
		{api.Cmd{Kind: api.CGate, Id: 300}, "1\x04" + zeros[1:] + "\x01\x2c" + zeros + "\x00\x00\x00\x00", "2\x04\xac\x02\x00\x00\x00\x00"},
		{api.Cmd{Kind: api.CNote}, "", "2\x05\x00\x00\x00\x00\x00"},
		{api.Cmd{Kind: api.CNote, Id: 9, Txn: 1, Text: "a\x00b"}, "", "2\x05\x09\x01\x00\x00\x03a\x00b"},
		{api.Cmd{Kind: api.CNote, Text: repeat(40)}, "", "2\x05\x00\x00\x00\x00\x28" + repeat(40)},
	}
}

func TestKnown(t *testing.T) {
	for _, k := range knowns() {
		one, is := cmd.Encode(k.c, 1)
		if one != k.one || is != (k.one != "") {
			t.Errorf("P701: Encode of %s in form 1: %s, %v, not %s", shown(said(k.c)), shown(one), is, shown(k.one))
		}
		if two, is := cmd.Encode(k.c, 2); two != k.two || !is {
			t.Errorf("P701: Encode of %s in form 2: %s, %v, not %s", shown(said(k.c)), shown(two), is, shown(k.two))
		}
		if k.one != "" {
			decodes(t, k.one, k.c, 1, k.two)
		}
		decodes(t, k.two, k.c, 2, k.two)
	}
}

func TestFormsAreOneOrTwo(t *testing.T) {
	for _, k := range knowns() {
		for _, form := range []int{-1 << 63, -2, -1, 0, 3, 4, '1', '2', 257, 258, 1<<32 + 1, 1<<63 - 1} {
			if s, is := cmd.Encode(k.c, form); is || s != "" {
				t.Errorf("P701: Encode of %s in form %d: %s, %v", shown(said(k.c)), form, shown(s), is)
			}
		}
	}
}

// No list and an empty one are the same (P2).
func TestNoWrites(t *testing.T) {
	for kind := api.CNone; kind <= api.CNote; kind++ {
		for form := 1; form <= 2; form++ {
			s, is := cmd.Encode(api.Cmd{Kind: kind}, form)
			again, isToo := cmd.Encode(api.Cmd{Kind: kind, Writes: []api.Write{}}, form)
			if s != again || is != isToo {
				t.Errorf("P2: kind %d, form %d: %q, not %q", kind, form, again, s)
			}
		}
	}
}
