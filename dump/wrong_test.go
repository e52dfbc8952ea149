package dump_test

import (
	"fmt"
	"math"
	"reflect"
	"strings"
	"testing"

	"federation/api"
	"federation/dump"
)

// spoil changes something somewhere in x, to what may not be.
func (d *die) spoil(x reflect.Value) {
	switch x.Kind() {
	case reflect.String:
		x.SetString(one(d, "", "t", "a", "A", "\x00", "select", "t (a", strings.Repeat("x", 50)))
	case reflect.Int:
		x.SetInt(int64(one(d, math.MinInt, -1, 0, 1, 2, 3, 5, 6, 7, 15, 99, math.MaxInt)))
	case reflect.Bool:
		x.SetBool(!x.Bool())
	case reflect.Struct:
		d.spoil(x.Field(d.of(x.NumField())))
	case reflect.Slice:
		d.spoilList(x)
	}
}

func (d *die) spoilList(x reflect.Value) {
	n := x.Len()
	if n == 0 || d.of(8) == 0 {
		x.Set(reflect.Append(x.Slice3(0, n, n), reflect.Zero(x.Type().Elem())))
		return
	}
	i, k := d.of(n), d.of(n)
	switch d.of(8) {
	case 0:
		x.Set(x.Slice(0, i))
	case 1:
		x.Set(x.Slice(i, n))
	case 2:
		x.Set(reflect.Append(x.Slice3(0, n, n), x.Index(i)))
	case 3:
		reflect.Swapper(x.Interface())(i, k)
	default:
		d.spoil(x.Index(i))
	}
}

// Whatever is handed in, the calls end and do not panic (P1), do not change it (P2), and answer the same again (P3).
func TestWrongTables(t *testing.T) {
	t.Parallel()
	d := &die{6}
	for range 60 {
		tabs := d.tables(t, d.of(160))
		for range 40 {
			given := roomy(tabs)
			for range 1 + d.of(4) {
				d.spoil(reflect.ValueOf(&given).Elem())
			}
			before, held := whole(given), spansOf(given)
			order := dump.Order(given)
			apart(t, "Order", held, spansOf(order))
			size := one(d, math.MinInt, -1, 0, 1, 2, 60, math.MaxInt)
			chunks := dump.Dump(given, size)
			apart(t, "Dump", held, spansOf(chunks))
			if whole(given) != before {
				t.Fatalf("P2: Order or Dump of %v changes what was handed in", given)
			}
			if fmt.Sprint(order) != fmt.Sprint(dump.Order(given)) || said(chunks) != said(dump.Dump(given, size)) {
				t.Fatalf("P3: %v", given)
			}
		}
	}
}

// Pairs that are not by K, or there twice, and chunks of any kind.
func TestWrongPairs(t *testing.T) {
	t.Parallel()
	d := &die{7}
	for range 60 {
		tabs := d.tables(t, d.of(60))
		chunks := dump.Dump(tabs, 2)
		var l []api.Pair
		for at := range chunks {
			l = brings(t, l, chunks, at, api.OK)
			given, parts := roomy(l), roomy(chunks)
			for range 1 + d.of(4) {
				d.spoil(reflect.ValueOf(&given).Elem())
			}
			for range d.of(3) {
				d.spoil(reflect.ValueOf(&parts).Elem())
			}
			before, beforeC, held := whole(given), whole(parts), spansOf(given, parts)
			for _, place := range []int{math.MinInt, -1, 0, at, at + 1, len(chunks), math.MaxInt} {
				next, e := dump.Apply(given, parts, place)
				if e != api.OK && len(next) > 0 {
					t.Fatalf("P4: %q beside %v", next, e)
				}
				apart(t, "Apply", held, spansOf(next))
			}
			end, e := dump.Finish(given, parts)
			if e != api.OK && len(end) > 0 {
				t.Fatalf("P4: %q beside %v", end, e)
			}
			apart(t, "Finish", held, spansOf(end, dump.Left(given, parts)))
			if whole(given) != before || whole(parts) != beforeC {
				t.Fatalf("P2: %q is not as it was", given)
			}
		}
	}
}

// More tables than may be, all alike, or in one long ring: the calls end (P1).
func TestManyTables(t *testing.T) {
	var alike, ring []api.Tab
	for i := range 2000 {
		name := func(i int) string { return fmt.Sprintf("t%04d", i%2000) }
		alike = append(alike, api.Tab{T: api.Table{Name: "t", Links: []api.Link{{Col: 9, Table: "t"}, {Col: -1, Table: "z"}}}})
		ring = append(ring, api.Tab{T: api.Table{Name: name(i), Links: []api.Link{{Col: math.MinInt, Table: name(i + 1)}}}})
	}
	for _, d := range [][]api.Tab{alike, ring} {
		if n := len(dump.Order(d)); n != len(d) {
			t.Errorf("%d names of %d tables", n, len(d))
		}
		dump.Dump(d, 1)
	}
}
