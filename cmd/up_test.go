package cmd_test

import (
	"testing"

	"federation/api"
	"federation/cmd"
)

// What was raised is the same command, and stays as it is, raised again.
func TestUp(t *testing.T) {
	t.Parallel()
	d := &die{9}
	l := largest()
	for kind := api.CNone; kind <= api.CNote; kind++ {
		for range 300 {
			l = append(l, d.command(kind))
		}
	}
	for _, c := range l {
		two := encoded(t, c, 2)
		raised(t, two, c, two)
		if c.Kind != api.CNote {
			raised(t, encoded(t, c, 1), c, two)
		}
	}
}

func raised(t *testing.T, s string, c api.Cmd, two string) {
	t.Helper()
	up, is := cmd.Up(s)
	if !is || up != two {
		t.Fatalf("P701: Up of %s: %s, %v, not %s", shown(s), shown(up), is, shown(two))
	}
	if x, form, is := cmd.Decode(up); !is || form != 2 || said(x) != said(c) {
		t.Fatalf("P702: %s is raised to %s: %s", shown(s), shown(up), shown(said(x)))
	}
	if again, is := cmd.Up(up); !is || again != up {
		t.Fatalf("P702: %s is raised again to %s, %v", shown(up), shown(again), is)
	}
}

// Two commands have the same bytes of a form only if they are the same.
func TestNoTwoAreOne(t *testing.T) {
	t.Parallel()
	d := &die{10}
	seen := map[string]string{}
	for range 3000 {
		c := d.command(d.of(6))
		for form := 1; form <= 2; form++ {
			s, is := cmd.Encode(c, form)
			if !is {
				continue
			}
			if was, is := seen[s]; is && was != said(c) {
				t.Fatalf("T4: %s and %s are both %s", shown(was), shown(said(c)), shown(s))
			}
			seen[s] = said(c)
		}
	}
}
