package cmd

import (
	"slices"

	"federation/api"
)

const (
	forms     = 2
	maxWrites = 1000
	maxKey    = 300
	maxValue  = 4000
	maxNote   = 40
)

// right says whether c is a command at all, in whatever form.
func right(c api.Cmd) bool {
	if c.Kind < api.CNone || c.Kind > api.CNote || c.Id < 0 || c.Txn < 0 {
		return false
	}
	if !decides(c.Kind) && (c.Commit || len(c.Writes) > 0) {
		return false
	}
	if c.Kind != api.CNote && c.Text != "" {
		return false
	}
	return len(c.Text) <= maxNote && len(c.Writes) <= maxWrites && !slices.ContainsFunc(c.Writes, wrong)
}

// decides says whether commands of a kind tell what becomes of a transaction.
func decides(kind int) bool { return kind == api.CDecide || kind == api.CFinish }

func wrong(w api.Write) bool {
	return w.K == "" || len(w.K) > maxKey || len(w.V) > maxValue || w.Gone && w.V != ""
}

// has says whether a form has a kind of commands.
func has(form, kind int) bool { return form == 2 || form == 1 && kind != api.CNote }
