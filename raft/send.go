package raft

import "federation/api"

// others goes through the other nodes of the group, by their numbers.
func (n *node) others(yield func(int) bool) {
	for id := range n.Votes {
		if id != n.Id && !yield(id) {
			return
		}
	}
}

func (n *node) send(to int, m api.Msg) {
	m.From, m.To, m.Term = n.Id, to, n.Term
	n.sent = append(n.sent, m)
}

func (n *node) sendEntriesToAll() {
	for to := range n.others {
		n.sendEntries(to)
	}
}

func (n *node) sendEntries(to int) {
	ahead := n.Next[to] - 1
	n.send(to, api.Msg{
		Kind:    api.MAppend,
		Index:   ahead,
		LogTerm: n.termOf(ahead),
		Entries: fresh(n.behind(ahead)),
		Commit:  n.Commit,
	})
}

// behind are the entries behind one, as many as a message takes.
func (n *node) behind(at int) []api.Entry {
	l := n.Log[min(max(at, 0), n.last()):]
	return l[:min(len(l), maxSent)]
}
