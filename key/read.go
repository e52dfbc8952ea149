package key

import (
	"federation/api"
	"federation/val"
)

// reader takes what it reads off what is left.
type reader struct{ rest string }

// value reads one that may yet be not Right; false: there is none.
func (r *reader) value() (api.Value, bool) {
	kind, is := number[uint8](r)
	v := api.Value{Kind: int(kind)}
	if !is {
		return v, false
	}
	switch v.Kind {
	case api.TNull:
		return v, true
	case api.TBool:
		n, is := number[uint8](r)
		v.N = int(n)
		return v, is
	case api.TInt:
		n, is := number[uint64](r)
		v.N = int(n ^ top)
		return v, is
	case api.TDec:
		return r.decimal()
	case api.TText, api.TBytes:
		v.S, is = r.text()
		return v, is
	}
	return v, false
}

func (r *reader) decimal() (api.Value, bool) {
	whole, isWhole := number[uint64](r)
	left, isLeft := number[uint32](r)
	if !isWhole || !isLeft || left >= million {
		return api.Value{}, false
	}
	a := api.Value{Kind: api.TDec, N: int(whole ^ top)}
	b := val.Norm(api.Value{Kind: api.TDec, N: int(left), Scale: maxScale})
	if !val.Right(a) {
		return api.Value{}, false
	}
	v, e := val.Reckon(api.XAdd, a, b)
	return v, e == api.OK
}

func (r *reader) text() (string, bool) {
	var b []byte
	for {
		c, is := number[uint8](r)
		if !is {
			return "", false
		}
		if c == zero {
			mark, is := number[uint8](r)
			if is && mark == ends {
				return string(b), true
			}
			if !is || mark != goesOn {
				return "", false
			}
		}
		b = append(b, c)
	}
}

// number reads one of T, the highest byte first.
func number[T unsigned](r *reader) (T, bool) {
	size := width[T]() / 8
	if len(r.rest) < size {
		return 0, false
	}
	n := uint64(0)
	for i := range size {
		n = n<<8 | uint64(r.rest[i])
	}
	r.rest = r.rest[size:]
	return T(n), true
}
