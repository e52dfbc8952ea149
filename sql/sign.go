package sql

import (
	"iter"
	"strconv"
	"strings"

	"federation/api"
	"federation/val"
)

// Kinds of signs.
const (
	ended  = iota // behind the last one
	broken        // bytes that are no sign
	word
	mark
	number
	quoted
)

// sign is one of a text.
type sign struct {
	kind, at int
	word     string    // of a word, a mark: its bytes
	v        api.Value // of a number: the one with a `-` ahead, as there is one more of them; of quoted: what it says
	tooMuch  bool      // it is beyond a limit wherever it stands
}

// signs goes through the signs of text; the last one is ended or broken.
func signs(text string) iter.Seq[sign] {
	return func(yield func(sign) bool) {
		for at := 0; ; {
			at += run(text[at:], isBlank)
			s, size := first(text[at:])
			s.at = at
			if !yield(s) || size == 0 {
				return
			}
			at += size
		}
	}
}

// first is the sign that rest begins with, and its size; that is 0 if no more are to be looked for.
func first(rest string) (sign, int) {
	switch {
	case rest == "":
		return sign{kind: ended}, 0
	case strings.HasPrefix(rest, "x'"):
		return firstBytes(rest)
	case rest[0] == '\'':
		return firstText(rest)
	case isLetter(rest[0]):
		return firstWord(rest)
	case isDigit(rest[0]):
		return firstNumber(rest)
	}
	return firstMark(rest)
}

func firstBytes(rest string) (sign, int) {
	inner := rest[len("x'"):]
	size := run(inner, isSixteenth)
	if size%2 != 0 || !strings.HasPrefix(inner[size:], "'") {
		return sign{kind: broken}, 0
	}
	b := make([]byte, 0, size/2)
	for i := 0; i < size; i += 2 {
		b = append(b, sixteenth(inner[i])<<4|sixteenth(inner[i+1]))
	}
	return quote(api.TBytes, string(b)), len("x'") + size + len("'")
}

func firstText(rest string) (sign, int) {
	var b []byte
	for i := 1; i < len(rest) && isPrintable(rest[i]); i++ {
		if rest[i] == '\'' {
			if !strings.HasPrefix(rest[i:], "''") {
				return quote(api.TText, string(b)), i + 1
			}
			i++
		}
		b = append(b, rest[i])
	}
	return sign{kind: broken}, 0
}

func quote(kind int, s string) sign {
	v := api.Value{Kind: kind, S: s}
	return sign{kind: quoted, v: v, tooMuch: !val.Right(v)}
}

func firstWord(rest string) (sign, int) {
	size := run(rest, isOfWord)
	return sign{kind: word, word: rest[:size], tooMuch: size > api.MaxName}, size
}

func firstNumber(rest string) (sign, int) {
	size := run(rest, isDigit)
	whole, part := rest[:size], ""
	if behind := rest[size:]; strings.HasPrefix(behind, ".") {
		part = behind[1 : 1+run(behind[1:], isDigit)]
	}
	if part == "" {
		n, fits := below(whole)
		return sign{kind: number, v: api.Value{Kind: api.TInt, N: n}, tooMuch: !fits}, size
	}
	// The last zeros go ahead of reckoning: there may be more of them than an int has digits.
	normed := strings.TrimRight(part, "0")
	n, fits := below(whole + normed)
	v := api.Value{Kind: api.TDec, N: n, Scale: len(normed)}
	return sign{kind: number, v: v, tooMuch: !fits || !val.Right(v)}, size + len(".") + len(part)
}

// below is the number of digits with a `-` ahead, and whether that is an int.
func below(digits string) (int, bool) {
	n, err := strconv.Atoi("-" + digits)
	return n, err == nil
}

func firstMark(rest string) (sign, int) {
	for _, m := range [...]string{"<>", "<=", "(", ")", ",", ";", "=", "<", "+", "-", "*"} {
		if strings.HasPrefix(rest, m) {
			return sign{kind: mark, word: m}, len(m)
		}
	}
	return sign{kind: broken}, 0
}

// run is how many bytes at the beginning of s are of a sort.
func run(s string, is func(byte) bool) int {
	n := 0
	for n < len(s) && is(s[n]) {
		n++
	}
	return n
}

func isBlank(b byte) bool { return b == ' ' || b == '\n' }

func isLetter(b byte) bool { return 'a' <= b && b <= 'z' }

func isDigit(b byte) bool { return '0' <= b && b <= '9' }

func isOfWord(b byte) bool { return isLetter(b) || isDigit(b) || b == '_' }

func isSixteenth(b byte) bool { return isDigit(b) || 'a' <= b && b <= 'f' }

func isPrintable(b byte) bool { return 32 <= b && b <= 126 }

// sixteenth is what a digit of sixteen says.
func sixteenth(b byte) byte {
	if isDigit(b) {
		return b - '0'
	}
	return b - 'a' + 10
}

// isKey says whether w is a key word.
func isKey(w string) bool {
	switch w {
	case "create", "table", "drop", "alter", "add", "foreign", "key", "references", "primary", "unique", "check",
		"not", "null", "insert", "into", "values", "update", "set", "where", "delete", "from", "select", "count",
		"true", "false", "and", "or", "is", "bool", "int", "dec", "text", "bytes":
		return true
	}
	return false
}
