package group

import "slices"

// line is things in a row, by their numbers from 0 on. Of a number that is none, it has nothing.
type line[T any] struct{ l []T }

func (q *line[T]) size() int { return len(q.l) }

// add puts things behind all.
func (q *line[T]) add(l ...T) { q.l = append(q.l, l...) }

func (q *line[T]) at(at int) (v T, is bool) {
	if at < 0 || at >= len(q.l) {
		return v, false
	}
	return q.l[at], true
}

// take takes a thing out. What is taken mostly stands near the front of a line that may be long: so those on its
// shorter side close up.
func (q *line[T]) take(at int) (v T, is bool) {
	v, is = q.at(at)
	if !is {
		return v, false
	}
	if at >= len(q.l)/2 {
		q.l = slices.Delete(q.l, at, at+1)
		return v, true
	}
	copy(q.l[1:], q.l[:at])
	clear(q.l[:1]) // nothing hangs on what is gone
	q.l = q.l[1:]
	return v, true
}

// all goes through the things.
func (q *line[T]) all(yield func(T) bool) {
	for _, v := range q.l {
		if !yield(v) {
			return
		}
	}
}
