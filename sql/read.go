package sql

import (
	"iter"
	"slices"
	"strings"

	"federation/api"
	"federation/val"
)

// reader goes through signs, from left to right, up to the first one that is wrong.
type reader struct {
	left []sign // those that were not yet passed; none any more behind a wrong one
	deep int    // in how many signs that may stand in MaxDeep others
	at   int    // of the wrong one
	e    api.Errno
}

func newReader(text string) *reader {
	return &reader{left: slices.Collect(signs(text))}
}

// ahead is the sign that stands i behind the next one.
func (r *reader) ahead(i int) sign {
	if i >= len(r.left) {
		return sign{kind: ended}
	}
	return r.left[i]
}

// tell says that the next sign is wrong. All rules then meet the end, so none of them must ask whether another one has failed.
func (r *reader) tell(e api.Errno) {
	if r.e == api.OK {
		r.at, r.e = r.ahead(0).at, e
	}
	r.left = nil
}

// refuse says that the next sign may not stand where it does.
func (r *reader) refuse() {
	if r.ahead(0).tooMuch {
		r.tell(api.Limit)
	}
	r.tell(api.BadText)
}

func (r *reader) done() bool { return r.ahead(0).kind == ended }

func (r *reader) is(w string) bool { return r.ahead(0).word == w }

func (r *reader) pass() {
	if len(r.left) > 0 {
		r.left = r.left[1:]
	}
}

// skip passes the next sign, if it is w.
func (r *reader) skip(w string) bool {
	is := r.is(w)
	if is {
		r.pass()
	}
	return is
}

// take passes signs that must stand here.
func (r *reader) take(words ...string) {
	for _, w := range words {
		if !r.skip(w) {
			r.refuse()
		}
	}
}

// named says whether the next sign is a name.
func (r *reader) named() bool {
	s := r.ahead(0)
	return s.kind == word && !s.tooMuch && !isKey(s.word)
}

func (r *reader) name() string {
	if !r.named() {
		r.refuse()
		return ""
	}
	s := r.ahead(0)
	r.pass()
	return strings.Clone(s.word)
}

// signed says whether the next sign is a number's `-`.
func (r *reader) signed() bool { return r.is("-") && r.ahead(1).kind == number }

func (r *reader) literal() api.Value {
	switch {
	case r.skip("null"):
		return api.Value{}
	case r.skip("false"):
		return api.Value{Kind: api.TBool}
	case r.skip("true"):
		return api.Value{Kind: api.TBool, N: 1}
	case r.signed():
		r.pass()
	case r.ahead(0).kind == number:
		v, e := val.Reckon(api.XNeg, r.ahead(0).v, api.Value{})
		if e != api.OK {
			r.tell(api.Limit)
		}
		r.given()
		return v
	}
	return r.given()
}

// given reads what the next sign has by itself: a number with a `-` ahead, text or bytes.
func (r *reader) given() api.Value {
	s := r.ahead(0)
	if s.tooMuch || s.kind != number && s.kind != quoted {
		r.refuse()
	}
	r.pass()
	return s.v
}

// rule reads one thing, from the next sign on.
type rule[T any] func(r *reader) T

// within reads what stands in `( )`.
func (read rule[T]) within(r *reader) T {
	r.take("(")
	t := read(r)
	r.take(")")
	return t
}

// parted goes through things with a `,` between.
func (read rule[T]) parted(r *reader) iter.Seq[T] {
	return func(yield func(T) bool) {
		for yield(read(r)) && r.skip(",") {
		}
	}
}

// deeper passes the next sign, in which what read reads stands.
func (read rule[T]) deeper(r *reader) T {
	if r.deep == api.MaxDeep {
		r.tell(api.Limit)
	}
	r.pass()
	r.deep++
	t := read(r)
	r.deep--
	return t
}
