package group_test

import (
	"fmt"
	"math"
	"strings"
	"testing"

	"federation/api"
	"federation/group"
	"federation/raft"
)

// law is the chapter once more, its words one by one. What flies has a number that tells when it set off; the lowest is
// ahead.
type law struct {
	nodes  []api.Node
	down   map[int]bool
	flight map[int]api.Msg
	gone   int // how many have set off
}

func newLaw(size int) *law {
	w := &law{down: map[int]bool{}, flight: map[int]api.Msg{}}
	for id := range size {
		w.nodes = append(w.nodes, raft.New(id, size, 1))
	}
	return w
}

func (w *law) sets(l ...api.Msg) {
	for _, m := range l {
		w.flight[w.gone] = m
		w.gone++
	}
}

// number is that of the message that flies behind so many others, -1 if there is none.
func (w *law) number(at int) int {
	for k := range w.gone {
		if _, is := w.flight[k]; is {
			if at == 0 {
				return k
			}
			at--
		}
	}
	return -1
}

func (w *law) there(id int) bool { return id >= 0 && id < len(w.nodes) }

func (w *law) Up(id int) bool { return w.there(id) && !w.down[id] }

func (w *law) Tick(id int) {
	if w.Up(id) {
		n, l := raft.Tick(w.nodes[id])
		w.nodes[id] = n
		w.sets(l...)
	}
}

func (w *law) Propose(id int, data string) bool {
	if !w.Up(id) {
		return false
	}
	n, l, is := raft.Propose(w.nodes[id], data)
	if is {
		w.nodes[id] = n
		w.sets(l...)
	}
	return is
}

func (w *law) Deliver(at int) bool {
	k := w.number(at)
	m := w.flight[k]
	delete(w.flight, k)
	if k >= 0 && w.Up(m.To) {
		n, l := raft.Handle(w.nodes[m.To], m)
		w.nodes[m.To] = n
		w.sets(l...)
	}
	return k >= 0
}

func (w *law) Drop(at int) bool {
	k := w.number(at)
	delete(w.flight, k)
	return k >= 0
}

func (w *law) Twice(at int) bool {
	k := w.number(at)
	if k >= 0 {
		w.sets(w.flight[k])
	}
	return k >= 0
}

func (w *law) Crash(id int) bool {
	is := w.Up(id)
	if is {
		w.down[id] = true
	}
	return is
}

func (w *law) Start(id, form int) bool {
	if !w.down[id] || form != 1 && form != 2 {
		return false
	}
	w.nodes[id], w.down[id] = raft.Restart(w.nodes[id], form), false
	return true
}

func (w *law) Node(id int) (api.Node, bool) {
	if !w.there(id) {
		return api.Node{}, false
	}
	return w.nodes[id], true
}

func (w *law) Applied(id int) []string {
	var l []string
	if w.Up(id) {
		for i, e := range w.nodes[id].Log {
			if i+1 <= w.nodes[id].Commit && len(e.Data) > 0 {
				l = append(l, e.Data)
			}
		}
	}
	return l
}

func (w *law) Flight() int { return len(w.flight) }

func (w *law) Leader() int {
	at := -1
	for id, n := range w.nodes {
		if w.Up(id) && n.Role == api.Leader && (at < 0 || n.Term > w.nodes[at].Term) {
			at = id
		}
	}
	return at
}

// word throws a word of a script; now and then its number is one that is none.
func (d *die) word(g calls, size, step int) string {
	id, at := d.of(size), d.of(g.Flight()+1)
	if d.of(16) == 0 {
		wrong := []int{-1, size, size + 1, 5, g.Flight(), -size, math.MaxInt, math.MinInt}
		id, at = wrong[d.of(len(wrong))], wrong[d.of(len(wrong))]
	}
	lead := max(0, g.Leader())
	switch k := d.of(30); {
	case k < 11:
		return fmt.Sprint("d", at)
	case k == 11:
		return fmt.Sprint("x", at)
	case k == 12:
		return fmt.Sprint("w", at)
	case k == 13:
		return fmt.Sprint("p", id, ":", step)
	case k == 14:
		return fmt.Sprint("p", lead, ":")
	case k < 18:
		return fmt.Sprint("p", lead, ":", step)
	case k == 18 && d.of(3) == 0:
		return fmt.Sprint("c", id)
	case k == 19:
		return fmt.Sprint("s", id)
	case k == 20:
		return fmt.Sprint("u", id)
	}
	return fmt.Sprint("t", id)
}

// alike holds that a group and the law answer the same word alike, and then tell the same.
func alike(t *testing.T, g, w calls, size int, word, ahead string) {
	t.Helper()
	if got, want := do(g, word), do(w, word); got != want {
		t.Fatalf("P901: behind %s: %s: answered %s, not %s", ahead, word, got, want)
	}
	if got, want := told(g, size), told(w, size); got != want {
		t.Fatalf("P901: behind %s: %s: tells\n%snot\n%s", ahead, word, got, want)
	}
}

func TestLawInPlays(t *testing.T) {
	t.Parallel()
	d := &die{43}
	for i := range 100 {
		size := 1 + i%5
		g, w := group.New(size), newLaw(size)
		for step := range 400 {
			alike(t, g, w, size, d.word(g, size, step), fmt.Sprint("play ", i, " step ", step))
		}
		for id := range size {
			alike(t, g, w, size, fmt.Sprint("s", id), fmt.Sprint("play ", i))
		}
		quiet(g, size, 20)
		quiet(w, size, 20)
		alike(t, g, w, size, "t0", fmt.Sprint("play ", i, " in the end"))
	}
}

// begins are plays that end where something is going on, by the size of their groups.
var begins = map[int][]string{
	1: {"", "t0*4", "t0*5 p0:a p0: p0:b", "t0*5 p0:a c0", "t0*5 p0:a c0 u0 t0*4"},
	2: {"t0*5", "t0*5 t1*7", "t0*5 d0*2 p0:a", leads0(2) + " p0:a p0: d0*3", leads0(2) + " c0 t1*8", leads0(2) + " p0:a c1 d0 u1"},
	3: {"t0*5 t1*7", leads0(3) + " p0:a d0*2 c1", leads0(3) + " p0:a c0 t1*9 d0*3", leads0(3) + " p0:a p0:b x0 x1 t1*9 w0"},
}

// Whatever two or three words stand behind such a play.
func TestLawOfAllShortPlays(t *testing.T) {
	t.Parallel()
	for size, l := range begins {
		for _, begin := range l {
			words := strings.Fields("d0 d1 d2 d3 d-1 x0 x1 x9 w0 w1 w2 p0:y t0")
			for id := range size {
				words = append(words, fmt.Sprint("t", id), fmt.Sprint("p", id, ":x"), fmt.Sprint("c", id), fmt.Sprint("s", id), fmt.Sprint("u", id))
			}
			for _, first := range words {
				for _, second := range words {
					g, w := group.New(size), newLaw(size)
					script(g, begin+" "+first)
					script(w, begin+" "+first)
					alike(t, g, w, size, second, begin+" "+first)
					alike(t, g, w, size, "d0", begin+" "+first+" "+second)
				}
			}
		}
	}
}
