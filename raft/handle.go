package raft

import "federation/api"

// takes says whether m can come to n at all.
func (n *node) takes(m api.Msg) bool {
	switch {
	case m.Kind < api.MVote || m.Kind > api.MMatch:
		return false
	case m.To != n.Id || m.From == n.Id || m.From < 0 || m.From >= len(n.Votes):
		return false
	case m.Term < 0 || m.Index < 0 || m.LogTerm < 0 || m.Commit < 0:
		return false
	case m.Index == 0 && m.LogTerm != 0:
		return false
	}
	return m.Kind != api.MMatch || !m.Ok || m.Index <= n.last()
}

func (n *node) handle(m api.Msg) {
	if m.Term > n.Term {
		n.Term, n.Vote, n.Role = m.Term, nobody, api.Follower
	}
	switch m.Kind {
	case api.MVote:
		n.vote(m)
	case api.MVoted:
		n.voted(m)
	case api.MAppend:
		n.follow(m)
	case api.MMatch:
		n.match(m)
	}
}

// vote votes for a node, or refuses to.
func (n *node) vote(m api.Msg) {
	own := n.termOf(n.last())
	free := m.Term == n.Term && (n.Vote == nobody || n.Vote == m.From)
	ok := free && (m.LogTerm > own || m.LogTerm == own && m.Index >= n.last())
	if ok {
		n.Vote = m.From
		n.beginAnew()
	}
	n.send(m.From, api.Msg{Kind: api.MVoted, Ok: ok})
}

func (n *node) voted(m api.Msg) {
	if n.Role == api.Candidate && m.Term == n.Term && m.Ok {
		n.count(m.From)
	}
}

// follow puts a Leader's entries into the log, if they fit, and tells as far as it then matches.
func (n *node) follow(m api.Msg) {
	back := api.Msg{Kind: api.MMatch, Index: n.last(), Form: n.Form}
	if m.Term < n.Term {
		goto tell
	}
	n.Role = api.Follower
	n.beginAnew()
	if m.Index > n.last() || m.Index > 0 && n.termOf(m.Index) != m.LogTerm {
		back.Index = min(n.last(), m.Index-1)
		goto tell
	}
	n.put(m.Index, m.Entries)
	back.Ok, back.Index = true, m.Index+len(m.Entries)
	n.Commit = max(n.Commit, min(m.Commit, back.Index))

tell:
	n.send(m.From, back)
}

// put puts entries behind the first so many ones. What is there already stays, and so does what stands behind it: a
// message that comes late must not cut off what a later one has brought.
func (n *node) put(at int, l []api.Entry) {
next:
	if len(l) == 0 {
		return
	}
	if at < n.last() && n.Log[at].Term == l[0].Term {
		at, l = at+1, l[1:]
		goto next
	}
	n.Log = append(n.Log[:at], fresh(l)...)
}

// match takes in how far another node's log matches a Leader's.
func (n *node) match(m api.Msg) {
	if n.Role != api.Leader || m.Term != n.Term {
		return
	}
	n.Forms[m.From] = m.Form
	if !m.Ok {
		// One is added last: to an Index that is the greatest number it can't be.
		n.Next[m.From] = max(1, min(n.Next[m.From]-2, m.Index)+1)
		n.sendEntries(m.From)
		return
	}
	n.Match[m.From] = max(n.Match[m.From], m.Index)
	n.Next[m.From] = n.Match[m.From] + 1
	n.commit()
}

// commit finds the last entry that a majority has. One of an earlier Term is none, though all have it: another that
// leads might still cut it off.
func (n *node) commit() {
	at := n.last()
next:
	if at <= max(n.Commit, 0) {
		return
	}
	if n.termOf(at) != n.Term || !majority(n.Match, func(k int) bool { return k >= at }) {
		at--
		goto next
	}
	n.Commit = at
}
