package cmd_test

import (
	"fmt"
	"testing"

	"federation/api"
	"federation/cmd"
)

// refused holds that c is not right: no form has it.
func refused(t *testing.T, c api.Cmd) {
	t.Helper()
	for form := 1; form <= 2; form++ {
		if s, is := cmd.Encode(c, form); is || s != "" {
			t.Errorf("P701: Encode of %s in form %d: %s, %v", shown(said(c)), form, shown(s), is)
		}
	}
}

// taken holds that c is right: it is written and read in each form that has it.
func taken(t *testing.T, c api.Cmd) {
	t.Helper()
	two := encoded(t, c, 2)
	decodes(t, two, c, 2, two)
	if c.Kind != api.CNote {
		decodes(t, encoded(t, c, 1), c, 1, two)
	} else if s, is := cmd.Encode(c, 1); is || s != "" {
		t.Errorf("P701: Encode of %s in form 1: %q, %v", said(c), s, is)
	}
}

// Every kind, with and without each thing that only some kinds have.
func TestWhatKindsHave(t *testing.T) {
	for kind := -2; kind <= 9; kind++ {
		for set := range 8 {
			c := api.Cmd{Kind: kind, Id: 1, Txn: 1, Commit: set&1 != 0}
			if set&2 != 0 {
				c.Writes = writes(1)
			}
			if set&4 != 0 {
				c.Text = "x"
			}
			is := set == 0 || set&4 == 0 && (kind == 2 || kind == 3) || set == 4 && kind == 5
			if is && kind >= 0 && kind <= 5 {
				taken(t, c)
			} else {
				refused(t, c)
			}
		}
	}
}

func TestKindsBeyond(t *testing.T) {
	for _, kind := range []int{-1 << 63, -256, -1, 6, 7, 255, 256, 257, 258, 261, 1 << 32, 1<<63 - 1} {
		refused(t, api.Cmd{Kind: kind})
	}
}

func TestNumbersBelowNothing(t *testing.T) {
	for kind := api.CNone; kind <= api.CNote; kind++ {
		for _, n := range []int{-1, -128, -1 << 62, -1 << 63} {
			refused(t, api.Cmd{Kind: kind, Id: n})
			refused(t, api.Cmd{Kind: kind, Txn: n})
			refused(t, api.Cmd{Kind: kind, Id: n, Txn: n})
		}
		taken(t, api.Cmd{Kind: kind})
	}
}

func TestLimits(t *testing.T) {
	for _, c := range largest() {
		taken(t, c)
	}
	for _, kind := range []int{api.CDecide, api.CFinish} {
		refused(t, api.Cmd{Kind: kind, Writes: writes(1001)})
		refused(t, api.Cmd{Kind: kind, Writes: writes(1 << 16)})
		for _, gone := range []bool{false, true} {
			refused(t, api.Cmd{Kind: kind, Writes: []api.Write{{Gone: gone}}})
			refused(t, api.Cmd{Kind: kind, Writes: []api.Write{{K: repeat(301), Gone: gone}}})
			refused(t, api.Cmd{Kind: kind, Writes: []api.Write{{K: repeat(1 << 16), Gone: gone}}})
			refused(t, api.Cmd{Kind: kind, Writes: []api.Write{{K: "a", V: repeat(4001), Gone: gone}}})
		}
		refused(t, api.Cmd{Kind: kind, Writes: []api.Write{{V: "a"}}})
		refused(t, api.Cmd{Kind: kind, Writes: []api.Write{{K: "a", V: repeat(1 << 16)}}})
		refused(t, api.Cmd{Kind: kind, Writes: []api.Write{{K: "a", V: "b", Gone: true}}})
	}
	refused(t, api.Cmd{Kind: api.CNote, Text: repeat(41)})
	refused(t, api.Cmd{Kind: api.CNote, Text: repeat(1 << 16)})
}

// One write that is wrong, wherever it stands, is enough.
func TestOneWrongWrite(t *testing.T) {
	for at := range 5 {
		for i, w := range []api.Write{{}, {K: repeat(301)}, {K: "a", V: repeat(4001)}, {K: "a", V: "b", Gone: true}} {
			t.Run(fmt.Sprint(at, i), func(t *testing.T) {
				l := writes(5)
				taken(t, api.Cmd{Kind: api.CFinish, Writes: l})
				l[at] = w
				refused(t, api.Cmd{Kind: api.CFinish, Writes: l})
			})
		}
	}
}
