package group

import (
	"slices"
	"testing"
)

// What was taken out of a line is not kept by it, wherever it stood.
func TestLineForgets(t *testing.T) {
	for size := range 9 {
		for at := range size {
			var q line[*int]
			for k := range size {
				q.add(&k)
			}
			room := q.l
			v, is := q.take(at)
			if !is || *v != at || q.size() != size-1 {
				t.Fatalf("of %d is %d taken: %v", size, at, is)
			}
			if slices.Contains(room[:cap(room)], v) {
				t.Errorf("of %d is %d taken, and kept", size, at)
			}
		}
	}
}
