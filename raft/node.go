package raft

import (
	"math"
	"slices"
	"strings"

	"federation/api"
)

const (
	nobody  = -1 // whom a node votes for that has not yet
	maxSize = 5  // of a group
	maxForm = 2
	maxSent = 5 // entries in a message
)

// node is a node that is being worked on, and what it has sent meanwhile.
type node struct {
	api.Node
	sent []api.Msg
}

// working is n in memory of its own, and whether it is whole: whatever else may stand in a node that is handed in, no
// work on it then reaches beyond its lists.
func working(n api.Node) (w node, is bool) {
	n.Log = fresh(n.Log)
	n.Votes = slices.Clone(n.Votes)
	n.Next = slices.Clone(n.Next)
	n.Match = slices.Clone(n.Match)
	n.Forms = slices.Clone(n.Forms)
	size := len(n.Votes)
	is = len(n.Next) == size && len(n.Match) == size && len(n.Forms) == size
	return node{Node: n}, is && may(n.Id, size, maxForm)
}

// may says whether there is such a node.
func may(id, size, form int) bool {
	return id >= 0 && id < size && size <= maxSize && form >= 1 && form <= maxForm
}

// due is when a node's patience ends: of two nodes with one clock never at once.
func due(clock, id int) int { return clock + 5 + 2*id }

func (n *node) beginAnew() { n.Due = due(n.Clock, n.Id) }

func (n *node) last() int { return len(n.Log) }

// termOf is the Term of an entry, 0 if there is none.
func (n *node) termOf(at int) int {
	if at < 1 || at > n.last() {
		return 0
	}
	return n.Log[at-1].Term
}

func (n *node) tick() {
	n.Clock++
	if n.Role == api.Leader {
		if n.Clock%2 == 0 {
			n.sendEntriesToAll()
		}
		return
	}
	// Behind the greatest number there is no Term that is greater, and no node votes twice in one.
	if n.Clock >= n.Due && n.Term < math.MaxInt {
		n.stand()
	}
}

// stand begins a Term, and asks all others for their votes.
func (n *node) stand() {
	n.Term++
	n.Role = api.Candidate
	n.Vote = n.Id
	n.Votes = all(len(n.Votes), false)
	n.beginAnew()
	for to := range n.others {
		n.send(to, api.Msg{Kind: api.MVote, Index: n.last(), LogTerm: n.termOf(n.last())})
	}
	n.count(n.Id)
}

// count takes a vote for itself, and leads if that is enough.
func (n *node) count(from int) {
	n.Votes[from] = true
	if majority(n.Votes, func(is bool) bool { return is }) {
		n.lead()
	}
}

func (n *node) lead() {
	n.Role = api.Leader
	n.Next = all(len(n.Next), n.last()+1)
	n.Match = all(len(n.Match), 0)
	n.add("")
}

// add puts an entry behind a Leader's log.
func (n *node) add(data string) {
	n.Log = append(n.Log, api.Entry{Term: n.Term, Data: strings.Clone(data)})
	n.Match[n.Id] = n.last()
	if len(n.Match) == 1 {
		n.Commit = n.last()
	}
	n.sendEntriesToAll()
}
