package cmd_test

import (
	"testing"
	"unsafe"

	"federation/api"
	"federation/cmd"
)

// span is the memory of a list, with its spare room, or of a text.
type span struct{ from, to uintptr }

func (s span) meets(other span) bool { return s.from < other.to && other.from < s.to }

func textSpan(s string) span {
	from := uintptr(unsafe.Pointer(unsafe.StringData(s)))
	return span{from, from + uintptr(len(s))}
}

// spans are those of all lists and texts of c.
func spans(c api.Cmd) []span {
	l := []span{textSpan(c.Text)}
	if cap(c.Writes) > 0 {
		from := uintptr(unsafe.Pointer(unsafe.SliceData(c.Writes)))
		l = append(l, span{from, from + uintptr(cap(c.Writes))*unsafe.Sizeof(api.Write{})})
	}
	for _, w := range c.Writes {
		l = append(l, textSpan(w.K), textSpan(w.V))
	}
	return l
}

func apart(t *testing.T, what string, given, answered []span) {
	t.Helper()
	for _, a := range answered {
		for _, g := range given {
			if a.meets(g) {
				t.Fatalf("P2: %s: the answer shares memory with what was handed in", what)
			}
		}
	}
}

// roomy is c with a list that has spare room with something in it.
func roomy(c api.Cmd) api.Cmd {
	n := len(c.Writes)
	l := append(make([]api.Write, 0, n+3), c.Writes...)
	c.Writes = append(l, api.Write{K: "spare"}, api.Write{V: "spare"}, api.Write{Gone: true})[:n]
	return c
}

// whole is c with the spare room of its list.
func whole(c api.Cmd) string { return said(c) + saidWrites(c.Writes[:cap(c.Writes)]) }

// What is handed in stays as it is, with its spare room; what is answered is new (P2), and the same again (P3).
func TestMemory(t *testing.T) {
	t.Parallel()
	d := &die{11}
	for range 600 {
		c := roomy(d.command(d.of(6)))
		before := whole(c)
		for form := 1; form <= 2; form++ {
			s, is := cmd.Encode(c, form)
			if again, isToo := cmd.Encode(c, form); again != s || isToo != is {
				t.Fatalf("P3: Encode of %s", said(c))
			}
			if whole(c) != before {
				t.Fatalf("P2: Encode of %s changes it", before)
			}
			if !is {
				continue
			}
			apart(t, "Encode", spans(c), []span{textSpan(s)})
			readApart(t, s)
		}
	}
}

func readApart(t *testing.T, s string) {
	t.Helper()
	given := []span{textSpan(s)}
	c, _, _ := cmd.Decode(s)
	apart(t, "Decode", given, spans(c))
	want := said(c)
	up, _ := cmd.Up(s)
	apart(t, "Up", given, []span{textSpan(up)})
	for i := range c.Writes {
		c.Writes[i] = api.Write{}
	}
	_ = append(c.Writes, api.Write{K: "x"})
	if again, _, _ := cmd.Decode(s); said(again) != want {
		t.Fatalf("P3: Decode of %q: %s, not %s", s, said(again), want)
	}
}

// Several at once do not touch one another, though they are handed the same (P2).
func TestSideBySide(t *testing.T) {
	c := api.Cmd{Kind: api.CDecide, Commit: true, Writes: []api.Write{{K: "a", V: "b"}, {K: "c", Gone: true}}}
	s := encoded(t, c, 2)
	done := make(chan bool)
	for range 8 {
		go func() {
			is := true
			for range 200 {
				got, _ := cmd.Encode(c, 2)
				x, _, _ := cmd.Decode(s)
				is = is && got == s && said(x) == said(c)
			}
			done <- is
		}()
	}
	for range 8 {
		if !<-done {
			t.Error("P2: side by side they answer otherwise")
		}
	}
}
