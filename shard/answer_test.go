package shard_test

import (
	"testing"

	"federation/api"
	"federation/shard"
)

func answered(t *testing.T, s shard.State, id int, want shard.Told) {
	t.Helper()
	if got, is := shard.Answer(s, id); !is || saidTold(got) != saidTold(want) {
		t.Errorf("P1001: Answer of %d: %s, %v, not %s", id, saidTold(got), is, saidTold(want))
	}
}

// unanswered holds that an Id is not told, and that zero values stand beside the false (P4).
func unanswered(t *testing.T, s shard.State, id int) {
	t.Helper()
	got, is := shard.Answer(s, id)
	if is || got.Id != 0 || got.Ok || got.Pairs != nil || got.Made.Txn != 0 || got.Made.Commit || got.Made.Writes != nil {
		t.Errorf("P1001: Answer of %d: %s, %v", id, saidTold(got), is)
	}
}

func TestAnswer(t *testing.T) {
	l := []shard.Told{
		{Id: 9, Ok: true, Pairs: pairs("a=1 b=")},
		{Id: 0},
		{Id: 4, Ok: true},
		{Id: top, Ok: true, Made: shard.Made{Txn: 3, Commit: true, Writes: []api.Write{put("a", ""), gone("b")}}},
		{Id: 1, Ok: true, Made: shard.Made{Txn: 4}},
		{Id: 3},
	}
	for size := range len(l) + 1 {
		for _, stopped := range []bool{false, true} {
			s := shard.State{Told: l[:size], Stopped: stopped, Lock: 2, Made: []shard.Made{{Txn: 2}}}
			for i, told := range l {
				if i < size {
					answered(t, s, told.Id, told)
				} else {
					unanswered(t, s, told.Id)
				}
			}
			for _, id := range []int{2, 5, 8, 10, -1, -9, -top - 1, top - 1} {
				unanswered(t, s, id)
			}
		}
	}
}

// Of a state all is answered that its commands were told, each by its Id, and no other.
func TestAnswersOfLog(t *testing.T) {
	t.Parallel()
	d := &die{47}
	for range 300 {
		s := shard.Replay(2, d.log(t, d.of(30)))
		at := map[int]shard.Told{}
		for _, told := range s.Told {
			if _, is := at[told.Id]; is {
				t.Fatalf("P1001: %d is told twice: %s", told.Id, said(s))
			}
			at[told.Id] = told
		}
		for id := -2; id < 35; id++ {
			if told, is := at[id]; is {
				answered(t, s, id, told)
			} else {
				unanswered(t, s, id)
			}
		}
	}
}
