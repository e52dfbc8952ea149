package sql

import (
	"strconv"
	"strings"

	"federation/api"
	"federation/val"
)

// Lit is a Right value as a text.
func Lit(v api.Value) string {
	// What may not be could have any Scale, and so any length.
	if !val.Right(v) {
		return ""
	}
	switch v.Kind {
	case api.TNull:
		return "null"
	case api.TBool:
		return flag(v.N)
	case api.TInt:
		return strconv.Itoa(v.N)
	case api.TDec:
		return decimal(v.N, v.Scale)
	case api.TText:
		return "'" + strings.ReplaceAll(v.S, "'", "''") + "'"
	}
	return sixteenths(v.S)
}

func flag(n int) string {
	if n == 0 {
		return "false"
	}
	return "true"
}

func decimal(n, scale int) string {
	digits, below := strings.CutPrefix(strconv.Itoa(n), "-")
	if short := scale + 1 - len(digits); short > 0 {
		digits = strings.Repeat("0", short) + digits
	}
	point := len(digits) - scale
	s := digits[:point] + "." + digits[point:]
	if scale == 0 {
		s += "0"
	}
	if below {
		s = "-" + s
	}
	return s
}

func sixteenths(s string) string {
	const digits = "0123456789abcdef"
	b := []byte("x'")
	for i := range len(s) {
		b = append(b, digits[s[i]>>4], digits[s[i]&15])
	}
	return string(b) + "'"
}

// Expr is an expression as a text.
func Expr(x api.Expr) string {
	var b strings.Builder
	write(&b, x)
	return b.String()
}

func write(b *strings.Builder, x api.Expr) {
	switch x.Kind {
	case api.XLit:
		b.WriteString(Lit(x.V))
	case api.XCol:
		b.WriteString(x.Name)
	case api.XNot:
		b.WriteString("not ")
		writeChild(b, x, 0)
	case api.XNeg:
		b.WriteString("-")
		writeEnclosed(b, child(x, 0))
	case api.XIsNull:
		writeChild(b, x, 0)
		b.WriteString(" is null")
	case api.XMul, api.XAdd, api.XSub, api.XEq, api.XNe, api.XLt, api.XLe, api.XAnd, api.XOr:
		writeChild(b, x, 0)
		b.WriteString(" " + joinedBy(x.Kind) + " ")
		writeChild(b, x, 1)
	}
}

func writeChild(b *strings.Builder, x api.Expr, i int) {
	c := child(x, i)
	if c.Kind == api.XLit || c.Kind == api.XCol {
		write(b, c)
		return
	}
	writeEnclosed(b, c)
}

func writeEnclosed(b *strings.Builder, x api.Expr) {
	b.WriteString("(")
	write(b, x)
	b.WriteString(")")
}

// child is an expression's child, or none where it lacks.
func child(x api.Expr, i int) api.Expr {
	if i < len(x.L) {
		return x.L[i]
	}
	return api.Expr{}
}

// Text is a statement as a text.
func Text(s api.Stmt) string {
	var b strings.Builder
	last := "(" // nothing is parted from what stands ahead of the first sign
	for _, w := range words(s) {
		if parted(last, w) {
			b.WriteString(" ")
		}
		b.WriteString(w)
		last = w
	}
	return b.String()
}

// parted says whether a blank stands between two signs.
func parted(a, b string) bool {
	return a != "(" && b != ")" && b != "," && !(a == "count" && b == "(")
}

// words are the signs of a statement; an expression, a literal is one.
func words(s api.Stmt) []string {
	switch s.Kind {
	case api.SCreate:
		return tableWords(s.T)
	case api.SDrop:
		return []string{"drop", "table", s.Name}
	case api.SLink:
		return append([]string{"alter", "table", s.Name, "add"}, linkWords(s.Col, s.To)...)
	case api.SInsert:
		return append([]string{"insert", "into", s.Name, "values"}, rowWords(s.Row)...)
	case api.SUpdate:
		return append([]string{"update", s.Name, "set", s.Col, "=", Expr(s.E)}, whereWords(s.Where)...)
	case api.SDelete:
		return append([]string{"delete", "from", s.Name}, whereWords(s.Where)...)
	case api.SSelect:
		return append([]string{"select", "*", "from", s.Name}, whereWords(s.Where)...)
	case api.SCount:
		return append([]string{"select", "count", "(", "*", ")", "from", s.Name}, whereWords(s.Where)...)
	}
	return nil
}

func linkWords(col, to string) []string {
	return []string{"foreign", "key", "(", col, ")", "references", to}
}

func rowWords(row []api.Value) []string {
	l := []string{"("}
	for i, v := range row {
		if i > 0 {
			l = append(l, ",")
		}
		l = append(l, Lit(v))
	}
	return append(l, ")")
}

func whereWords(x api.Expr) []string {
	if x.Kind == api.XNone {
		return nil
	}
	return []string{"where", Expr(x)}
}

func tableWords(t api.Table) []string {
	l := []string{"create", "table", t.Name, "("}
	for _, c := range t.Cols {
		l = append(l, c.Name, typeWord(c.Type))
		if c.NotNull {
			l = append(l, "not", "null")
		}
		l = append(l, ",")
	}
	l = append(l, "primary", "key", "(", colName(t, t.Key), ")")
	for _, u := range t.Unique {
		l = append(l, ",", "unique", "(", colName(t, u), ")")
	}
	if t.Check.Kind != api.XNone {
		l = append(l, ",", "check", "(", Expr(t.Check), ")")
	}
	for _, k := range t.Links {
		l = append(l, ",")
		l = append(l, linkWords(colName(t, k.Col), k.Table)...)
	}
	return append(l, ")")
}

// colName is the name of the column at a place, or none where there is no such place.
func colName(t api.Table, i int) string {
	if i < 0 || i >= len(t.Cols) {
		return ""
	}
	return t.Cols[i].Name
}
