package sql_test

import (
	"strings"
	"testing"

	"federation/api"
)

func TestSigns(t *testing.T) {
	a, b, x := col("a"), col("b"), col("x")
	for s, want := range map[string]api.Expr{
		"a=b": of(api.XEq, a, b), "a<b": of(api.XLt, a, b), "a<=b": of(api.XLe, a, b), "a<>b": of(api.XNe, a, b),
		"a<-b":          of(api.XLt, a, of(api.XNeg, b)),
		"a<>-1":         of(api.XNe, a, lit(num(-1))),
		"a=1and b=2":    of(api.XAnd, of(api.XEq, a, lit(num(1))), of(api.XEq, b, lit(num(2)))),
		"1is null":      of(api.XIsNull, lit(num(1))),
		"'a'is null":    of(api.XIsNull, lit(text("a"))),
		"x'0a'is null":  of(api.XIsNull, lit(raw("\n"))),
		"1.5or(a)or 2":  of(api.XOr, of(api.XOr, lit(dec(15, 1)), a), lit(num(2))),
		"x=x":           of(api.XEq, x, x),
		"x<x''":         of(api.XLt, x, lit(raw(""))),
		"a*b":           of(api.XMul, a, b),
		"a\n+\n\n  b\n": of(api.XAdd, a, b),
		"a_":            col("a_"), "a__9z": col("a__9z"), "z0": col("z0"), "x0": col("x0"), "nota": col("nota"), "is0": col("is0"), "nulls": col("nulls"), "e5": col("e5"),
	} {
		whereIsRead(t, "P301", s, want)
	}
}

func TestNoSigns(t *testing.T) {
	for s, at := range map[string]int{
		"'": 0, "'abc": 0, "'a''": 0, "'''": 0, "'a''b": 0, "a = 'abc": 4, "'a\nb'": 0, "'a\x7f'": 0, "'\x1f'": 0, "'\x80'": 0, "'é'": 0, "'a\x00": 0,
		"'" + strings.Repeat("a", 41): 0, "'" + strings.Repeat("a", 41) + "\n'": 0,
		"x'": 0, "x'0": 0, "x'0'": 0, "x'00": 0, "x'0g'": 0, "x'0A'": 0, "x'AB'": 0, "x'00 '": 0, "x' 00'": 0, "x'\n'": 0, "x'00\x00'": 0, "x'000'": 0,
		"x'" + strings.Repeat("0", 83) + "'": 0, "x'" + strings.Repeat("0", 82): 0,
		"a x'0'": 2, "a 'b": 2, "x ''": 2, "x '00'": 2, "ax'00'": 2, "xx''": 2, "x'''": 3, "x'00''a'": 5, "''x''": 2, "1x'00'": 1,
		"1.": 1, "1..5": 1, "1.a": 1, "1. 5": 1, "1 .5": 2, ".5": 0, "1.5.2": 3, "1.5.": 3, "1a": 1, "1_": 1, "1.5a": 3, "1e5": 1, "0x10": 1, "1,000": 1,
		"A": 0, "aB": 1, "_a": 0, "a.b": 1, "a!b": 1, "a != b": 2, "a > b": 2, "a >= b": 2, "a >b": 2, "a => b": 3, "a =< b": 3, "a < > b": 4, "a < = b": 4, "a <=> b": 4, "a <<b": 3, "a == b": 3,
		"a\t": 1, "a\r\n": 1, "a\x00": 1, "\xff": 0, "a \xc3\xa9": 2, "a\"b\"": 1, "a -- b ;": 7, "a/b": 1, "a + /": 4, "[a]": 0, "a # b": 2, "a;": 1,
	} {
		whereIsRefused(t, "P303", s, at, api.BadText)
	}
}

// Each byte by itself: it begins a sign that fits, or is refused where it stands; only what is quoted is told at its end's lack.
func TestBytes(t *testing.T) {
	for b := range 256 {
		s := string([]byte{byte(b)})
		switch {
		case b >= 'a' && b <= 'z':
			whereIsRead(t, "P302", s, col(s))
		case b >= '0' && b <= '9':
			whereIsRead(t, "P302", s, lit(num(b-'0')))
		case strings.Contains(" \n(-", s):
			whereIsRefused(t, "P303", s, 1, api.BadText)
		default:
			whereIsRefused(t, "P303", s, 0, api.BadText)
		}
		if b != ' ' && b != '\n' {
			isRefused(t, "P303", "drop table a "+s, len("drop table a "), api.BadText)
		}
		if b >= 32 && b <= 126 && b != '\'' {
			whereIsRead(t, "P301", "'"+s+"'", lit(text(s)))
		}
	}
}

func TestNames(t *testing.T) {
	keys := strings.Fields("create table drop alter add foreign key references primary unique check not null insert into values update set where delete from select count true false and or is bool int dec text bytes")
	for _, k := range keys {
		isRefused(t, "P303", "drop table "+k, len("drop table "), api.BadText)
		isRefused(t, "P303", "update t set "+k, len("update t set "), api.BadText)
		isRefused(t, "P303", "create table t ("+k, len("create table t ("), api.BadText)
		isRefused(t, "P303", "alter table t add foreign key (a) references "+k, len("alter table t add foreign key (a) references "), api.BadText)
		for _, name := range []string{k + "_", "a" + k, k + "0"} {
			isRead(t, "P303", "drop table "+name, api.Stmt{Kind: api.SDrop, Name: name})
			whereIsRead(t, "P302", name, col(name))
		}
		switch k {
		case "true", "false", "null":
		case "not":
			whereIsRefused(t, "P302", k, len(k), api.BadText)
		default:
			whereIsRefused(t, "P302", k, 0, api.BadText)
		}
	}
	for _, name := range []string{"begin", "by", "column", "commit", "decimal", "desc", "exists", "group", "in", "index", "like", "order", "on", "row", "rows", "x", "xor", "nul", "be", "to"} {
		isRead(t, "P303", "drop table "+name, api.Stmt{Kind: api.SDrop, Name: name})
	}
}
