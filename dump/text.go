package dump

import (
	"slices"
	"strings"

	"federation/api"
	"federation/sql"
)

// chunksOf are those of parts: rows come when all tables are there, late links when all rows are.
func chunksOf(l []part, size int) []api.Chunk {
	out := []api.Chunk{{Phase: 0, Text: text(l, part.create)}}
	links := ""
	for i, p := range l {
		for rows := range slices.Chunk(p.rows, size) {
			out = append(out, api.Chunk{Phase: i + 1, Text: text(rows, p.insert)})
		}
		links += text(p.late, p.link)
	}
	if links != "" {
		out = append(out, api.Chunk{Phase: len(l) + 1, Text: links})
	}
	return out
}

// text is what a chunk says of things that are a statement each.
func text[T any](l []T, as func(T) api.Stmt) string {
	var b strings.Builder
	for _, x := range l {
		b.WriteString(sql.Text(as(x)))
		b.WriteString(";\n")
	}
	return b.String()
}

func (p part) create() api.Stmt {
	t := p.form
	t.Links = p.early
	return api.Stmt{Kind: api.SCreate, T: t}
}

func (p part) insert(row []api.Value) api.Stmt {
	return api.Stmt{Kind: api.SInsert, Name: p.form.Name, Row: row}
}

func (p part) link(k api.Link) api.Stmt {
	s := api.Stmt{Kind: api.SLink, Name: p.form.Name, To: k.Table}
	// Of tables that are not sound a link may lead from no column.
	if k.Col >= 0 && k.Col < len(p.form.Cols) {
		s.Col = p.form.Cols[k.Col].Name
	}
	return s
}
