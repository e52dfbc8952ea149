package dump

import (
	"iter"
	"slices"
	"strings"

	"federation/api"
)

// part is a table as it is brought in: a link can be made with its table only where it leads to one that stands ahead; from the first other one on they are late, as a table's links have an order.
type part struct {
	form        api.Table
	rows        [][]api.Value
	early, late []api.Link
}

// parts goes through tables in their order.
func parts(d []api.Tab) iter.Seq[part] {
	return func(yield func(part) bool) {
		left := slices.SortedStableFunc(slices.Values(d), byName)
		ahead := map[string]struct{}{}
		for len(left) > 0 {
			i := next(left, ahead)
			if !yield(partOf(left[i], ahead)) {
				return
			}
			ahead[left[i].T.Name] = struct{}{}
			left = slices.Delete(left, i, i+1)
		}
	}
}

func byName(a, b api.Tab) int { return strings.Compare(a.T.Name, b.T.Name) }

// next is the place of the first table that waits for no other one; where each waits, as in a ring, that of the first.
func next(left []api.Tab, ahead map[string]struct{}) int {
	i := slices.IndexFunc(left, func(t api.Tab) bool {
		return !slices.ContainsFunc(t.T.Links, func(k api.Link) bool {
			_, is := ahead[k.Table]
			return !is && k.Table != t.T.Name
		})
	})
	return max(i, 0)
}

func partOf(t api.Tab, ahead map[string]struct{}) part {
	early := 0
	for _, k := range t.T.Links {
		if _, is := ahead[k.Table]; !is {
			break
		}
		early++
	}
	return part{form: t.T, rows: t.Rows, early: t.T.Links[:early], late: t.T.Links[early:]}
}
