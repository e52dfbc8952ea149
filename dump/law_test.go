package dump_test

import (
	"fmt"
	"regexp"
	"slices"
	"strings"

	"federation/api"
	"federation/db"
	"federation/sql"
)

// The chapter's words, written once more, as plainly as can be: the tests hold the program against them.

// lawOrder are the names, one by one.
func lawOrder(d []api.Tab) []string {
	var out []string
	for len(out) < len(d) {
		best, bestFree := "", false
		for _, t := range d {
			if slices.Contains(out, t.T.Name) {
				continue
			}
			free := true
			for _, k := range t.T.Links {
				free = free && (k.Table == t.T.Name || slices.Contains(out, k.Table))
			}
			if best == "" || free && !bestFree || free == bestFree && t.T.Name < best {
				best, bestFree = t.T.Name, free
			}
		}
		out = append(out, best)
	}
	return out
}

// lawDump are the chunks, text by text.
func lawDump(d []api.Tab, size int) []api.Chunk {
	if len(d) == 0 {
		return nil
	}
	order := lawOrder(d)
	chunks := []api.Chunk{{}}
	links := ""
	for i, name := range order {
		t := d[slices.IndexFunc(d, func(t api.Tab) bool { return t.T.Name == name })]
		create := t.T
		create.Links = nil
		for n, k := range t.T.Links {
			if n == len(create.Links) && slices.Contains(order[:i], k.Table) {
				create.Links = append(create.Links, k)
				continue
			}
			links += fmt.Sprintf("alter table %s add foreign key (%s) references %s;\n", name, t.T.Cols[k.Col].Name, k.Table)
		}
		chunks[0].Text += sql.Text(api.Stmt{Kind: api.SCreate, T: create}) + ";\n"
		for n, row := range t.Rows {
			if n%size == 0 {
				chunks = append(chunks, api.Chunk{Phase: 1 + i})
			}
			var words []string
			for _, v := range row {
				words = append(words, sql.Lit(v))
			}
			chunks[len(chunks)-1].Text += "insert into " + name + " values (" + strings.Join(words, ", ") + ");\n"
		}
	}
	if links != "" {
		chunks = append(chunks, api.Chunk{Phase: 1 + len(order), Text: links})
	}
	return chunks
}

// lawMark is a mark's K and V.
var lawMark = regexp.MustCompile(`^p[0-9][0-9][0-9][0-9]=1$`)

// lawMarks are those among pairs, by K, and the others.
func lawMarks(l []api.Pair) (map[string]bool, []api.Pair) {
	in := map[string]bool{}
	var others []api.Pair
	for _, p := range l {
		if lawMark.MatchString(p.K + "=" + p.V) {
			in[p.K] = true
		} else {
			others = append(others, p)
		}
	}
	return in, others
}

// lawApply is what pairs become by a chunk.
func lawApply(l []api.Pair, chunks []api.Chunk, at int) ([]api.Pair, api.Errno) {
	if at < 0 || at >= len(chunks) {
		return nil, api.NotThere
	}
	in, others := lawMarks(l)
	if in[mark(at).K] {
		return l, api.OK
	}
	for i, c := range chunks {
		if c.Phase < chunks[at].Phase && !in[mark(i).K] {
			return nil, api.Wait
		}
	}
	d, is := db.Load(others)
	if !is {
		return nil, api.NotThere
	}
	stmts, _, e := sql.ParseAll(chunks[at].Text)
	if e != api.OK {
		return nil, e
	}
	for _, s := range stmts {
		var a api.Answer
		if d, a = db.Exec(d, s); a.E != api.OK {
			return nil, a.E
		}
	}
	in[mark(at).K] = true
	out := db.Store(d)
	for k := range in {
		out = append(out, api.Pair{K: k, V: "1"})
	}
	slices.SortFunc(out, func(a, b api.Pair) int { return strings.Compare(a.K, b.K) })
	return out, api.OK
}
