package eval

import (
	"federation/api"
)

// maxChildren is how many an expression may have.
const maxChildren = 2

// step is an expression whose children are being gone through, and what was made of those that are done.
type step[T any] struct {
	x    api.Expr
	done int
	made [maxChildren]T
}

// fold makes one thing of an expression: first of its children, from left to right, then, by of, of itself and theirs (zero values for those that it has not). The first error ends it.
func fold[T any](x api.Expr, of func(x api.Expr, a, b T) (T, api.Errno)) (T, api.Errno) {
	// Expressions may hang deep on one another, so the way back to the whole lies in a list, not in calls.
	var path []step[T]

down:
	path = append(path, step[T]{x: x})

next:
	last := &path[len(path)-1]
	if last.done < min(len(last.x.L), maxChildren) {
		x = last.x.L[last.done]
		goto down
	}
	made, e := of(last.x, last.made[0], last.made[1])
	if e != api.OK {
		var none T
		return none, e
	}
	path = path[:len(path)-1]
	if len(path) == 0 {
		return made, api.OK
	}
	above := &path[len(path)-1]
	above.made[above.done] = made
	above.done++
	goto next
}
