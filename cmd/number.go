package cmd

const (
	more   = 128 // on each byte of a short number but the last one
	digit  = 7   // bits of a short number a byte
	digits = 9   // of the greatest short number, which has 63 bits
)

// fixed is a number of so many bytes, the highest first.
func fixed(size int) code[int] {
	return code[int]{
		put: func(b []byte, v *int) []byte {
			for i := size - 1; i >= 0; i-- {
				b = append(b, byte(*v>>(8*i)))
			}
			return b
		},
		take: func(s string, v *int) (string, bool) {
			if len(s) < size {
				return "", false
			}
			for i := range size {
				*v = *v<<8 | int(s[i])
			}
			return s[size:], true
		},
	}
}

// short is a number, 0 or more, by seven bits a byte, the lowest first.
func short() code[int] { return code[int]{putShort, takeShort} }

func putShort(b []byte, v *int) []byte {
	n := *v
again:
	if n >= more {
		b = append(b, byte(n)|more)
		n >>= digit
		goto again
	}
	return append(b, byte(n))
}

func takeShort(s string, v *int) (string, bool) {
	at := 0
again:
	if at == len(s) || at == digits {
		return "", false
	}
	*v |= int(s[at]&^more) << (digit * at)
	at++
	if s[at-1] >= more {
		goto again
	}
	return s[at:], true
}
