package shard

import (
	"iter"

	"federation/api"
	"federation/cmd"
)

// readable goes through a log's commands, each with the form in which it was written, up to the first one that a node of
// a form can't read.
func readable(form int, l []string) iter.Seq2[api.Cmd, int] {
	return func(yield func(api.Cmd, int) bool) {
		for _, data := range l {
			c, of, is := cmd.Decode(data)
			if !is || of > form || !yield(c, of) {
				return
			}
		}
	}
}

// after is what a log's commands make of a state. The state must have its memory for itself: it is changed.
func after(s State, form int, l ...string) State {
	if s.Stopped {
		return s
	}
	r := newRun(&s)
	left := len(l)
	for c, of := range readable(form, l) {
		r.take(c, of)
		left--
	}
	s.Stopped = left > 0
	return s
}
