package coord_test

import (
	"fmt"
	"maps"
	"slices"
	"strings"
	"testing"

	"federation/api"
	"federation/coord"
	"federation/db"
	"federation/shard"
)

// The chapter's words as a second program: what a transaction wants, and what it becomes by what it is told.

func lawWant(t coord.Txn, splits []string) (string, bool) {
	if t.Over {
		return "", false
	}
	mend := 0
	if t.Mend {
		mend = 50
	}
	id := t.No*100 + t.Stage*10 + t.Shard + mend
	switch t.Stage {
	case 0:
		return fmt.Sprint(t.Shard, saidCmd(lock(id, t.No))), true
	case 1:
		if t.E != api.OK {
			return fmt.Sprint(0, saidCmd(decide(id, t.No, false))), true
		}
		return fmt.Sprint(0, saidCmd(decide(id, t.No, true, t.Writes...))), true
	}
	var here []api.Write
	for _, w := range t.Made.Writes {
		above := t.Shard == 0 || splits[t.Shard-1] <= w.K
		below := t.Shard == len(splits) || w.K < splits[t.Shard]
		if above && below {
			here = append(here, w)
		}
	}
	return fmt.Sprint(t.Shard, saidCmd(finish(id, t.No, t.Made.Commit, here...))), true
}

func lawTold(t coord.Txn, splits []string, a shard.Told) coord.Txn {
	if t.Over {
		return t
	}
	stage := t.Stage
	if stage != 1 && t.Shard < len(splits) && (stage == 2 || a.Ok) {
		t.Shard++
	} else if stage < 2 {
		t.Stage, t.Shard = stage+1, 0
	} else {
		t.Over = true
	}
	if stage == 0 && !a.Ok {
		t.E = api.Conflict
	}
	if stage == 0 && a.Ok {
		t.Pairs = slices.Concat(t.Pairs, a.Pairs)
		if t.Stage == 1 {
			t.E, t.Answers, t.Writes = lawReckon(t)
		}
	}
	if stage == 1 {
		t.Made = a.Made
		switch {
		case a.Made.Commit && t.Mend:
			t.E = api.OK
		case !a.Made.Commit && t.E == api.OK:
			t.E, t.Answers = api.Conflict, nil
		}
	}
	return t
}

func lawReckon(t coord.Txn) (api.Errno, []api.Answer, []api.Write) {
	var before []api.Pair
	was, is := map[string]string{}, map[string]string{}
	for _, p := range t.Pairs {
		if was[p.K] = p.V; p.K[0] == 'p' {
			is[p.K] = p.V
		} else {
			before = append(before, p)
		}
	}
	if _, there := was[t.Mark]; there && t.Mark != "" {
		return api.OK, nil, nil
	}
	d, sound := db.Load(before)
	if !sound {
		return api.NotThere, nil, nil
	}
	end, _, e := db.All(d, t.L)
	if e != api.OK {
		return e, nil, nil
	}
	var answers []api.Answer
	for i, s := range t.L {
		upto, _, _ := db.All(d, t.L[:i])
		_, a := db.Exec(upto, s)
		answers = append(answers, a)
	}
	for _, p := range db.Store(end) {
		is[p.K] = p.V
	}
	if t.Mark != "" {
		is[t.Mark] = "1"
	}
	var l []api.Write
	all := maps.Clone(was)
	maps.Copy(all, is)
	for _, k := range slices.Sorted(maps.Keys(all)) {
		from, hadIt := was[k]
		to, hasIt := is[k]
		switch {
		case !hasIt:
			l = append(l, api.Write{K: k, Gone: true})
		case !hadIt || from != to:
			l = append(l, api.Write{K: k, V: to})
		}
	}
	return api.OK, answers, l
}

// follows holds that a transaction goes its way as the chapter's words have it, while it is told thrown things.
func (d *die) follows(t *testing.T, x coord.Txn, splits []string, pairs []api.Pair) {
	t.Helper()
	want := x
	for range 3*len(splits) + 6 {
		at, c, is := coord.Want(x, splits)
		text, may := lawWant(want, splits)
		if is != may || is && fmt.Sprint(at, saidCmd(c)) != text {
			t.Fatalf("P1102: Want of %s: %d %s, not %s", said(want), at, saidCmd(c), text)
		}
		a := d.answer(c, pairs)
		if x.Stage == 0 && d.of(9) > 0 {
			a = has(home(pairs, splits, x.Shard)...)
		}
		x, want = coord.Told(x, splits, a), lawTold(want, splits, a)
		same(t, fmt.Sprintf("P1103: told %v", a), x, want)
		if t.Failed() {
			return
		}
	}
	if !x.Over {
		t.Fatalf("P1103: it is not over: %s", said(x))
	}
}

// answer is a thrown one, of whatever was asked for.
func (d *die) answer(c api.Cmd, pairs []api.Pair) shard.Told {
	a := shard.Told{Id: one(d, c.Id, 0, d.of(1000)), Ok: d.of(4) > 0}
	if a.Ok && d.of(3) == 0 {
		a.Pairs = pairs[d.of(len(pairs)+1):]
	}
	if c.Kind == api.CDecide && d.of(3) > 0 {
		a.Made = shard.Made{Txn: c.Txn, Commit: c.Commit, Writes: c.Writes}
	} else if d.of(2) == 0 {
		a.Made = shard.Made{Txn: d.of(9), Commit: true, Writes: writes(one(d, "", "a=1", "a ct=1 p0001 rt rt\x00=1 ru z=9"))}
	}
	return a
}

// home are the pairs of a shard.
func home(l []api.Pair, splits []string, at int) []api.Pair {
	var here []api.Pair
	for _, p := range l {
		if coord.Home(splits, p.K) == at {
			here = append(here, p)
		}
	}
	return here
}

// text is a thrown one, of statements that often go well over tables t, u, v.
func (d *die) text() string {
	var b strings.Builder
	for range d.of(5) {
		n, m := d.of(8), d.of(8)
		b.WriteString(one(d,
			ofT+";", "create table u (k int not null, a int, primary key (k), foreign key (a) references t);",
			"create table v (a int not null, primary key (a), check (a < 7));",
			"drop table u;", "drop table v;", "drop table t;", "delete from u;", "select * from t;", "select count(*) from u where a is null;",
			fmt.Sprintf("insert into t values (%d, null);", n), fmt.Sprintf("insert into t values (%d, '%d');", n, m),
			fmt.Sprintf("insert into u values (%d, %d);", n, m), fmt.Sprintf("insert into v values (%d);", n),
			fmt.Sprintf("delete from t where a = %d;", n), fmt.Sprintf("update t set b = '%d' where a <= %d;", m, n),
			fmt.Sprintf("update u set a = %d where k < %d;", n, m), "update v set a = a + 1;",
			fmt.Sprintf("select * from u where a = %d;", n), "alter table v add foreign key (a) references t;",
		))
	}
	return b.String()
}

// splits are thrown ones, four at most.
func (d *die) splits() []string {
	var l []string
	for _, s := range []string{"a", "ct", "cu", "d", "p", "p0001", "p2", "q", "rt", "rt\x00" + bytesOf(3), "ru", "rv", "z"} {
		if len(l) < 4 && d.of(4) == 0 {
			l = append(l, s)
		}
	}
	return l
}

// pairs are those of thrown tables and marks; few are none that tables tell.
func (d *die) pairs(t *testing.T) []api.Pair {
	t.Helper()
	tabs, _, _ := db.All(nil, read(t, one(d, "", ofT+";", both)))
	for range d.of(12) {
		tabs, _, _ = db.All(tabs, read(t, d.text()))
	}
	l := db.Store(tabs)
	for _, k := range []string{"p", "p0001", "p0002", "p7", "pz"} {
		if d.of(4) == 0 {
			l = append(l, api.Pair{K: k, V: one(d, "", "1", "x")})
		}
	}
	if d.of(20) == 0 {
		l = append(l, api.Pair{K: one(d, "a", "ct\x00", "o", "q", "z"), V: "1"})
	}
	slices.SortFunc(l, func(a, b api.Pair) int { return strings.Compare(a.K, b.K) })
	return l
}

func TestLaw(t *testing.T) {
	t.Parallel()
	d := &die{11}
	for range 4000 {
		mark := one(d, "", "", "p", "p0001", "p7", "pnew", "x")
		x := coord.New(1+d.of(1000), mark, read(t, d.text()))
		if d.of(6) == 0 {
			x = coord.Recover(x.No)
		}
		d.follows(t, x, d.splits(), d.pairs(t))
		if t.Failed() {
			return
		}
	}
}

// All ways that a transaction can go over up to five shards, by what is told of each of few kinds.
func TestLawOfAll(t *testing.T) {
	l := read(t, "create table t (a int not null, primary key (a)); insert into t values (1);")
	kinds := []shard.Told{{}, ok, made(1, true, writes("ct=1 p1 rt=9 z")...), {Made: shard.Made{Txn: 1, Commit: true}}}
	for n, splits := range ways {
		var goOn func(x, want coord.Txn, left int)
		goOn = func(x, want coord.Txn, left int) {
			at, c, is := coord.Want(x, splits)
			if text, may := lawWant(want, splits); is != may || is && fmt.Sprint(at, saidCmd(c)) != text {
				t.Fatalf("P1102: Want of %s: %d %s, not %s", said(want), at, saidCmd(c), text)
			}
			same(t, "P1103: its way", x, want)
			if left == 0 || t.Failed() {
				return
			}
			for i, a := range kinds {
				// In the stages of many shards only whether it is Ok can count: two kinds are enough there.
				if x.Stage == 1 || i < 2 {
					goOn(coord.Told(x, splits, a), lawTold(want, splits, a), left-1)
				}
			}
		}
		for _, x := range []coord.Txn{coord.New(1, "", nil), coord.New(1, "p0", l), coord.New(1, "", append(l, l...)), coord.Recover(1)} {
			goOn(x, x, 2*(n+1)+2)
		}
	}
}
