package coord_test

import (
	"fmt"
	"slices"
	"strings"
	"testing"

	"federation/api"
	"federation/cmd"
	"federation/coord"
	"federation/db"
	"federation/shard"
)

// world is shards, and transactions over them, by what they were begun as. Nothing in it is changed once it is told.
type world struct {
	splits []string
	begin  []api.Pair
	shards []shard.State
	begun  map[int]coord.Txn
}

func newWorld(splits []string, begin []api.Pair) world {
	w := world{splits: splits, begin: begin, begun: map[int]coord.Txn{}}
	for at := range len(splits) + 1 {
		w.shards = append(w.shards, shard.State{Pairs: home(begin, splits, at)})
	}
	return w
}

// start is a new transaction of a world.
func (w world) start(t *testing.T, no int, mark, text string) coord.Txn {
	t.Helper()
	w.begun[no] = coord.New(no, mark, read(t, text))
	return w.begun[no]
}

// asked is a world in which what a transaction wants has come to its shard, at which it then is answered.
func (w world) asked(t *testing.T, x coord.Txn) (world, shard.Told) {
	t.Helper()
	at, c, is := coord.Want(x, w.splits)
	if !is || at < 0 || at > len(w.splits) {
		t.Fatalf("P1102: Want of %s: %d, %v", said(x), at, is)
	}
	data, may := cmd.Encode(c, 1)
	if _, also := cmd.Encode(c, 2); !may || !also {
		t.Fatalf("P1102: no command: %s", saidCmd(c))
	}
	w.shards = slices.Clone(w.shards)
	w.shards[at] = shard.Apply(w.shards[at], 1, data)
	a, is := shard.Answer(w.shards[at], c.Id)
	if !is {
		t.Fatalf("P1102: %s is not answered", saidCmd(c))
	}
	return w, a
}

// stepped is a world, and a transaction, when that has gone one step.
func (w world) stepped(t *testing.T, x coord.Txn) (world, coord.Txn) {
	t.Helper()
	w, a := w.asked(t, x)
	return w, coord.Told(x, w.splits, a)
}

// ended is a world, and a transaction, when that is over.
func (w world) ended(t *testing.T, x coord.Txn) (world, coord.Txn) {
	t.Helper()
	for range 3 * len(w.shards) {
		if x.Over {
			return w, x
		}
		w, x = w.stepped(t, x)
	}
	if !x.Over {
		t.Fatalf("T7: it is not over: %s", said(x))
	}
	return w, x
}

// serial is what the transactions that were decided to be done make of what there was at the beginning, in their order,
// one by one: the pairs, and what each is told (T1).
func (w world) serial(t *testing.T) ([]api.Pair, map[int][]api.Answer) {
	t.Helper()
	var marks []api.Pair
	is := map[string]bool{}
	for _, p := range w.begin {
		if p.K[0] == 'p' {
			marks = append(marks, p)
			is[p.K] = true
		}
	}
	d, sound := db.Load(slices.DeleteFunc(slices.Clone(w.begin), func(p api.Pair) bool { return p.K[0] == 'p' }))
	if !sound {
		t.Fatal("what there is at the beginning is not sound")
	}
	answers := map[int][]api.Answer{}
	for _, m := range w.shards[0].Made {
		x, known := w.begun[m.Txn]
		if !known {
			t.Fatalf("T1: %d is decided", m.Txn)
		}
		if !m.Commit {
			continue
		}
		answers[m.Txn] = nil
		if x.Mark != "" && is[x.Mark] {
			continue
		}
		for _, s := range x.L {
			var a api.Answer
			if d, a = db.Exec(d, s); a.E != api.OK {
				t.Fatalf("T1: %d is done, though %v is refused with %v", m.Txn, s, a.E)
			}
			answers[m.Txn] = append(answers[m.Txn], a)
		}
		if x.Mark != "" {
			is[x.Mark] = true
			marks = append(marks, api.Pair{K: x.Mark, V: "1"})
		}
	}
	l := append(marks, db.Store(d)...)
	slices.SortFunc(l, func(a, b api.Pair) int { return strings.Compare(a.K, b.K) })
	return l, answers
}

// holds says what must hold when nothing more is to come: of each transaction there is one that is over.
func (w world) holds(t *testing.T, over ...coord.Txn) {
	t.Helper()
	want, answers := w.serial(t)
	var got []api.Pair
	for at, s := range w.shards {
		if s.Lock != 0 || s.Stopped {
			t.Fatalf("T7: shard %d: lock %d, stopped %v", at, s.Lock, s.Stopped)
		}
		got = append(got, s.Pairs...)
	}
	if !slices.Equal(got, want) {
		t.Fatalf("T1: pairs\n%q\nnot\n%q", got, want)
	}
	for _, x := range over {
		l, done := answers[x.No]
		if !x.Over || done != (x.E == api.OK) {
			t.Fatalf("T1: done %v: %s", done, said(x))
		}
		if x.Mend {
			l = nil
		}
		if saidAnswers(x.Answers) != saidAnswers(l) {
			t.Fatalf("T1: %d is told %s, not %s", x.No, saidAnswers(x.Answers), saidAnswers(l))
		}
		for at, s := range w.shards {
			i := slices.IndexFunc(s.Made, func(m shard.Made) bool { return m.Txn == x.No })
			if i < 0 || s.Made[i].Commit != done {
				t.Fatalf("T2: of %d shard %d has %v", x.No, at, s.Made)
			}
		}
	}
}

// Alone: done, or refused; with marks; over each number of shards.
func TestAlone(t *testing.T) {
	for _, splits := range ways {
		w := newWorld(splits, mixed(t, both, "p"))
		for i, s := range []struct {
			mark, text string
			e          api.Errno
		}{
			{"", "insert into t values (9, 'y'); select * from t;", api.OK},
			{"p0001", "update u set a = 9; select * from u;", api.OK},
			{"p0001", "drop table z;", api.OK},
			{"p0002", "insert into t values (10, null); insert into t values (11, 'y');", api.Dup},
			{"p0002", "delete from t where a = 9;", api.Ref},
			{"p0002", "select * from z;", api.NoTable},
			{"p0002", "drop table u; drop table t; " + both, api.OK},
			{"", "select * from t; select count(*) from u where a = 5;", api.OK},
			{"", "drop table u; drop table t;", api.OK},
			{"", "", api.OK},
		} {
			x := w.start(t, 1+i, s.mark, s.text)
			if w, x = w.ended(t, x); x.E != s.e {
				t.Errorf("P1103: %s, %s: %v, not %v", s.mark, s.text, x.E, s.e)
			}
			w.holds(t, x)
		}
	}
}

// Wherever it is abandoned, with its last command come to its shard or not: whoever recovers it ends it, done at all
// shards or at none, also if he is abandoned himself, and another one begins anew. Others then go on.
func TestAbandoned(t *testing.T) {
	for _, splits := range ways {
		for _, text := range []string{"insert into t values (9, 'y'); update u set a = 9; select * from t;", "drop table u; drop table t;", "drop table z;"} {
			steps := 2*len(splits) + 3
			for left := range steps + 1 {
				for _, come := range []bool{false, true} {
					if left == steps && come {
						continue
					}
					w := newWorld(splits, mixed(t, both, "p"))
					x := w.start(t, 1, "p0001", text)
					for range left {
						w, x = w.stepped(t, x)
					}
					if come {
						w, _ = w.asked(t, x)
					}
					for mended := range len(splits) + 3 {
						now, y := w, coord.Recover(1)
						for range mended {
							now, y = now.stepped(t, y)
						}
						now, y = now.ended(t, coord.Recover(1))
						decided := left > len(splits)+1 || left == len(splits)+1 && come
						if (y.E == api.OK) != (decided && text != "drop table z;") {
							t.Fatalf("T2: abandoned behind %d of %d steps, %v: %s", left, steps, come, said(y))
						}
						now.holds(t, y)
						if !x.Over {
							// Who is late is told what was decided.
							var late coord.Txn
							now, late = now.ended(t, x)
							now.holds(t, y, late)
						}
						z := now.start(t, 2, "", both[:strings.Index(both, ";")]+";")
						now, z = now.ended(t, z)
						now.holds(t, y, z)
					}
				}
			}
		}
	}
}

// goAll goes all ways that several transactions can go side by side, step by step, from a place on.
func goAll(t *testing.T, w world, l []coord.Txn, ends *int) {
	t.Helper()
	over := 0
	for i, x := range l {
		if x.Over {
			over++
			continue
		}
		next, rest := w, slices.Clone(l)
		next, rest[i] = w.stepped(t, x)
		goAll(t, next, rest, ends)
		if t.Failed() {
			return
		}
	}
	// One that is recovered need not be over itself.
	mended := slices.ContainsFunc(l, func(x coord.Txn) bool { return x.Mend })
	if over == len(l) || mended && over == len(l)-1 && !l[0].Over {
		*ends++
		w.holds(t, slices.DeleteFunc(slices.Clone(l), func(x coord.Txn) bool { return !x.Over })...)
	}
}

// Two at once over two shards, in every order of their steps; and one that is recovered while it goes on, beside another.
func TestAllOrders(t *testing.T) {
	t.Parallel()
	for _, x := range []struct {
		splits []string
		begin  string
		texts  []string
		mend   bool
	}{
		{[]string{"r"}, both, []string{"insert into t values (9, null); select * from t;", "delete from t where a = 9; update u set a = 7; select * from u;"}, false},
		{[]string{"cu"}, both, []string{"drop table u; drop table t;", "insert into t values (8, null);"}, false},
		{[]string{"cu", "r"}, both, []string{"drop table u; drop table t;", "insert into t values (8, null);"}, false},
		{[]string{"r"}, ofT + ";", []string{"insert into t values (1, null);", "drop table t;"}, true},
		{nil, ofT + ";", []string{"insert into t values (1, null);", "insert into t values (1, 'x');"}, true},
	} {
		w := newWorld(x.splits, mixed(t, x.begin))
		var l []coord.Txn
		for i, s := range x.texts {
			l = append(l, w.start(t, i+1, "p0001"[:5*(1-i)], s))
		}
		if x.mend {
			l = append(l, coord.Recover(1))
		}
		ends := 0
		goAll(t, w, l, &ends)
		if ends < 20 {
			t.Errorf("only %d ends", ends)
		}
	}
}

// crowd is a world with those who are to come, who go on in it, who are over, and some who do not go on any more, but
// whose commands are still to come to shards.
type crowd struct {
	world
	coming, going, over, late []coord.Txn
}

// Many at once, in thrown order: answers get lost, some are abandoned, and recovered by one or by several.
func TestCrowds(t *testing.T) {
	t.Parallel()
	d := &die{23}
	done, refused, mended := 0, 0, 0
	for range 400 {
		c := crowd{world: newWorld(d.splits(), mixed(t, both, "p0007"))}
		for no := range 3 + d.of(10) {
			c.coming = append(c.coming, c.start(t, no+1, one(d, "", "p0001", "p0002", "p0007"), d.text()))
		}
		crowds := 1 + d.of(30)
		for steps := 0; len(c.coming)+len(c.going) > 0; steps++ {
			if len(c.coming) > 0 && (len(c.going) == 0 || d.of(crowds) == 0) {
				c.going, c.coming = append(c.going, c.coming[0]), c.coming[1:]
			}
			c.step(t, d, steps < 300)
		}
		for _, x := range c.late {
			c.world, _ = c.asked(t, x)
		}
		c.holds(t, c.over...)
		for _, x := range c.over {
			if x.E == api.OK {
				done++
			} else {
				refused++
			}
			if x.Mend && x.E == api.OK {
				mended++
			}
		}
		if t.Failed() {
			return
		}
	}
	if done < 500 || refused < 500 || mended < 50 {
		t.Errorf("%d done, %d refused, %d mended", done, refused, mended)
	}
}

// step is one of somebody; if it may go wrong, he may be abandoned.
func (c *crowd) step(t *testing.T, d *die, wrong bool) {
	t.Helper()
	i := d.of(len(c.going))
	x := c.going[i]
	if wrong && d.of(30) == 0 {
		c.late = append(c.late, x)
		c.going[i] = coord.Recover(x.No)
		if d.of(3) == 0 {
			c.going = append(c.going, coord.Recover(x.No))
		}
		return
	}
	var a shard.Told
	if c.world, a = c.asked(t, x); wrong && d.of(5) == 0 {
		return
	}
	c.going[i] = coord.Told(x, c.splits, a)
	if c.going[i].Over {
		c.over = append(c.over, c.going[i])
		c.going = slices.Delete(c.going, i, i+1)
	}
	if len(c.late) > 0 && d.of(9) == 0 {
		i := d.of(len(c.late))
		c.world, _ = c.asked(t, c.late[i])
		c.late = slices.Delete(c.late, i, i+1)
	}
}

// Two of the same mark do together what one does.
func TestOnceForMark(t *testing.T) {
	for _, splits := range ways {
		w := newWorld(splits, nil)
		x := w.start(t, 1, "p0001", both)
		w, x = w.ended(t, x)
		for no := 2; no < 5; no++ {
			y := w.start(t, no, "p0001", both)
			w, y = w.ended(t, y)
			w.holds(t, x, y)
			if y.E != api.OK || len(y.Answers) > 0 || len(y.Writes) > 0 {
				t.Errorf("P1103: once more: %s", said(y))
			}
		}
		y := w.start(t, 5, "p0002", both)
		if w, y = w.ended(t, y); y.E != api.Exists {
			t.Error(fmt.Sprint("P1103: another mark: ", said(y)))
		}
		w.holds(t, x, y)
	}
}
