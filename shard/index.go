package shard

// index finds a list's things by their numbers. Each command of a log asks for some, and the lists grow with the log: to
// go through them each time would take too long.
type index[T any] struct {
	list   *[]T
	number func(T) int
	places map[int]int
}

func indexOf[T any](list *[]T, number func(T) int) index[T] {
	x := index[T]{list, number, make(map[int]int, len(*list))}
	for at, v := range *list {
		x.places[number(v)] = at
	}
	return x
}

func (x index[T]) has(number int) bool {
	_, is := x.places[number]
	return is
}

func (x index[T]) find(number int) (v T, is bool) {
	at, is := x.places[number]
	if !is {
		return v, false
	}
	return (*x.list)[at], true
}

// add puts a thing at the list's end.
func (x index[T]) add(v T) {
	x.places[x.number(v)] = len(*x.list)
	*x.list = append(*x.list, v)
}
