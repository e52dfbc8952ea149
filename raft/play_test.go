package raft_test

import (
	"fmt"
	"slices"
	"testing"

	"federation/api"
	"federation/raft"
)

// play is a group whose nodes tick, propose and fall, and whose messages come in any order, twice, or not at all.
type play struct {
	d      *die
	nodes  []api.Node
	flight []api.Msg
	id     int      // of the node that did something last
	before api.Node // as it was
	fell   bool
	data   int
}

func newPlay(d *die, size int) *play {
	p := &play{d: d}
	for id := range size {
		p.nodes = append(p.nodes, raft.New(id, size, 1))
	}
	return p
}

func (p *play) step() {
	d := p.d
	p.id, p.fell = d.of(len(p.nodes)), false
	p.before = p.nodes[p.id]
	switch k := d.of(20); {
	case k < 11 && len(p.flight) > 0:
		at := d.of(len(p.flight))
		m := p.flight[at]
		if d.of(8) > 0 {
			p.drop(at)
		}
		if d.of(8) > 0 {
			p.deliver(m)
		}
	case k == 11 && d.of(4) == 0:
		p.fell = true
		p.does(raft.Restart(p.before, 1+d.of(2)), nil)
	case k < 15:
		p.propose()
	default:
		p.tick()
	}
}

func (p *play) drop(at int) { p.flight = append(p.flight[:at:at], p.flight[at+1:]...) }

func (p *play) does(n api.Node, l []api.Msg) {
	p.before, p.nodes[p.id] = p.nodes[p.id], n
	p.flight = append(p.flight, l...)
}

func (p *play) deliver(m api.Msg) {
	p.id = m.To
	p.does(raft.Handle(p.nodes[p.id], m))
}

func (p *play) tick() { p.does(raft.Tick(p.nodes[p.id])) }

func (p *play) propose() {
	p.data++
	n, l, _ := raft.Propose(p.nodes[p.id], fmt.Sprint(p.data))
	p.does(n, l)
}

// seen is what a play has shown, which nothing later may speak against.
type seen struct {
	votes   map[[2]int]int    // of a node in a Term
	leaders map[int]int       // of a Term
	fronts  map[[2]int]string // the log up to an entry of a number and Term
	done    []api.Entry       // what was committed, by whomever
	by      []int             // the Term in which it was
}

func newSeen() *seen {
	return &seen{votes: map[[2]int]int{}, leaders: map[int]int{}, fronts: map[[2]int]string{}}
}

// holds are P804, and what it is for (T2, T3).
func (s *seen) holds(t *testing.T, p *play) {
	t.Helper()
	n := p.nodes[p.id]
	if n.Term < p.before.Term || n.Form < p.before.Form || !p.fell && (n.Commit < p.before.Commit || n.Clock < p.before.Clock) {
		t.Fatalf("P804: something falls:\n%s\n%s", said(p.before), said(n))
	}
	if n.Term == p.before.Term && p.before.Vote >= 0 && n.Vote != p.before.Vote {
		t.Fatalf("P804: a vote is changed:\n%s\n%s", said(p.before), said(n))
	}
	if n.Vote >= 0 {
		k := [2]int{n.Id, n.Term}
		if was, is := s.votes[k]; is && was != n.Vote {
			t.Fatalf("P804: %d votes twice in %d: %d, %d", n.Id, n.Term, was, n.Vote)
		}
		s.votes[k] = n.Vote
	}
	if n.Role == api.Leader {
		if was, is := s.leaders[n.Term]; is && was != n.Id {
			t.Fatalf("P804: %d and %d lead in %d", was, n.Id, n.Term)
		}
		s.leaders[n.Term] = n.Id
	}
	if !slices.Equal(n.Log, p.before.Log) {
		s.frontsHold(t, n)
	}
	s.commitsHold(t, n)
}

func (s *seen) frontsHold(t *testing.T, n api.Node) {
	t.Helper()
	front := ""
	for i, e := range n.Log {
		front += fmt.Sprintf("%d %q;", e.Term, e.Data)
		k := [2]int{i + 1, e.Term}
		if was, is := s.fronts[k]; is && was != front {
			t.Fatalf("P804: logs up to %v: %s, %s", k, was, front)
		}
		s.fronts[k] = front
	}
}

func (s *seen) commitsHold(t *testing.T, n api.Node) {
	t.Helper()
	for at := range n.Commit {
		if at == len(s.done) {
			s.done, s.by = append(s.done, n.Log[at]), append(s.by, n.Term)
		}
		if s.done[at] != n.Log[at] {
			t.Fatalf("T3: committed as %d: %v, %v", at+1, s.done[at], n.Log[at])
		}
	}
	for at, e := range s.done {
		if n.Role == api.Leader && n.Term >= s.by[at] && (at >= len(n.Log) || n.Log[at] != e) {
			t.Fatalf("T2: who leads in %d has not %d, which is committed: %s", n.Term, at+1, said(n))
		}
	}
}

func TestPlays(t *testing.T) {
	t.Parallel()
	d := &die{17}
	done, led := 0, 0
	for i := range 150 {
		p, s := newPlay(d, 1+i%5), newSeen()
		for range 500 {
			p.step()
			s.holds(t, p)
		}
		done += len(s.done)
		led += len(s.leaders)
	}
	if done < 1000 || led < 200 {
		t.Errorf("the plays come to nothing: %d entries committed, %d Leaders", done, led)
	}
}

// When messages come and nodes stay up, one leads, and what it proposes is everywhere (T7), though before all went wrong.
func TestPlaysEnd(t *testing.T) {
	t.Parallel()
	d := &die{23}
	for i := range 100 {
		p := newPlay(d, 1+i%5)
		for range 200 {
			p.step()
		}
		p.quiet(60)
		lead, leaders := 0, 0
		for id, n := range p.nodes {
			if n.Role == api.Leader {
				lead, leaders = id, leaders+1
			}
		}
		if leaders != 1 {
			t.Fatalf("T7: %d lead", leaders)
		}
		for range 12 {
			p.id = lead
			p.propose()
		}
		p.quiet(20)
		for _, n := range p.nodes {
			first := p.nodes[lead]
			if n.Commit != len(n.Log) || saidLog(n.Log) != saidLog(first.Log) || n.Term != first.Term || n.Log[len(n.Log)-1].Data != fmt.Sprint(p.data) {
				t.Fatalf("T3: in the end\n%s\n%s", said(n), said(first))
			}
		}
	}
}

// quiet are rounds in which nothing falls and all comes, in order.
func (p *play) quiet(rounds int) {
	for range rounds {
		for p.id = range p.nodes {
			p.tick()
		}
		for range 300 {
			if len(p.flight) == 0 {
				break
			}
			m := p.flight[0]
			p.drop(0)
			p.deliver(m)
		}
	}
}
