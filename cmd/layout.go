package cmd

import "federation/api"

// layout is how commands of a form are written.
func layout(form int) code[api.Cmd] {
	if form == 1 {
		return layoutOne()
	}
	return layoutTwo()
}

func layoutOne() code[api.Cmd] {
	size := fixed(2)
	write := all(part(text(size), key), part(text(size), value), part(flag(), gone))
	return all(head('1', fixed(8)), part(list(size, write), writes))
}

func layoutTwo() code[api.Cmd] {
	size := short()
	kept := unless(gone, part(text(size), value))
	write := all(part(flag(), gone), part(text(size), key), kept)
	return all(head('2', size), part(list(size, write), writes), part(text(size), note))
}

// head is what both forms begin with, each with its own mark and numbers.
func head(mark byte, number code[int]) code[api.Cmd] {
	return all(
		sign[api.Cmd](mark),
		part(fixed(1), kind),
		part(number, id),
		part(number, txn),
		part(flag(), commit),
	)
}

func kind(c *api.Cmd) *int { return &c.Kind }

func id(c *api.Cmd) *int { return &c.Id }

func txn(c *api.Cmd) *int { return &c.Txn }

func commit(c *api.Cmd) *bool { return &c.Commit }

func writes(c *api.Cmd) *[]api.Write { return &c.Writes }

func note(c *api.Cmd) *string { return &c.Text }

func key(w *api.Write) *string { return &w.K }

func value(w *api.Write) *string { return &w.V }

func gone(w *api.Write) *bool { return &w.Gone }
