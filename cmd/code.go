package cmd

import "strings"

// code is how a T is put behind bytes, and taken off the front of bytes into a v that is nothing yet. One code does
// both, so that what is put is what is taken. It may take what is never put: read tells that apart.
type code[T any] struct {
	put  func(b []byte, v *T) []byte
	take func(s string, v *T) (rest string, is bool)
}

func (c code[T]) write(v T) string { return string(c.put(nil, &v)) }

// read is the T whose write is s. Only writing it again tells whether s is written as it must be, and not longer.
func (c code[T]) read(s string) (T, bool) {
	var v, none T
	rest, is := c.take(s, &v)
	if !is || rest != "" || c.write(v) != s {
		return none, false
	}
	return v, true
}

// sign is a byte that stands there whatever the S is.
func sign[S any](mark byte) code[S] {
	return code[S]{
		put: func(b []byte, _ *S) []byte { return append(b, mark) },
		take: func(s string, _ *S) (string, bool) {
			if s == "" || s[0] != mark {
				return "", false
			}
			return s[1:], true
		},
	}
}

func flag() code[bool] {
	return code[bool]{
		put: func(b []byte, v *bool) []byte {
			if *v {
				return append(b, 1)
			}
			return append(b, 0)
		},
		take: func(s string, v *bool) (string, bool) {
			if s == "" {
				return "", false
			}
			*v = s[0] == 1
			return s[1:], true
		},
	}
}

// text is a text behind its size.
func text(size code[int]) code[string] {
	return code[string]{
		put: func(b []byte, v *string) []byte {
			n := len(*v)
			return append(size.put(b, &n), *v...)
		},
		take: func(s string, v *string) (string, bool) {
			var n int
			rest, is := size.take(s, &n)
			if !is || n > min(len(rest), maxValue) {
				return "", false
			}
			*v = strings.Clone(rest[:n])
			return rest[n:], true
		},
	}
}

// list is a list's items behind their number.
func list[T any](size code[int], item code[T]) code[[]T] {
	return code[[]T]{
		put: func(b []byte, v *[]T) []byte {
			n := len(*v)
			b = size.put(b, &n)
			for i := range *v {
				b = item.put(b, &(*v)[i])
			}
			return b
		},
		take: func(s string, v *[]T) (string, bool) {
			var n int
			rest, is := size.take(s, &n)
			if !is || n > maxWrites {
				return "", false
			}
			for i := range n {
				var none T
				*v = append(*v, none)
				if rest, is = item.take(rest, &(*v)[i]); !is {
					return "", false
				}
			}
			return rest, true
		},
	}
}

// part is a field of an S, by its place.
func part[S, T any](field code[T], place func(*S) *T) code[S] {
	return code[S]{
		put:  func(b []byte, v *S) []byte { return field.put(b, place(v)) },
		take: func(s string, v *S) (string, bool) { return field.take(s, place(v)) },
	}
}

// unless is c, or nothing, if the flag at a place, which must stand ahead of it, is set.
func unless[S any](set func(*S) *bool, c code[S]) code[S] {
	return code[S]{
		put: func(b []byte, v *S) []byte {
			if *set(v) {
				return b
			}
			return c.put(b, v)
		},
		take: func(s string, v *S) (string, bool) {
			if *set(v) {
				return s, true
			}
			return c.take(s, v)
		},
	}
}

// all are parts of an S, one behind the other.
func all[S any](parts ...code[S]) code[S] {
	return code[S]{
		put: func(b []byte, v *S) []byte {
			for _, p := range parts {
				b = p.put(b, v)
			}
			return b
		},
		take: func(s string, v *S) (string, bool) {
			is := true
			for _, p := range parts {
				if s, is = p.take(s, v); !is {
					return "", false
				}
			}
			return s, true
		},
	}
}
