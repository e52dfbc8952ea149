package group

import (
	"slices"
	"strings"

	"federation/api"
)

// member is a node of a group, and whether it is up.
type member struct {
	api.Node
	up bool
}

// up is a member that is up.
func (g *Group) up(id int) (*member, bool) {
	m, is := g.nodes.at(id)
	if !is || !m.up {
		return nil, false
	}
	return m, true
}

// becomes makes a member what raft made of it, and lets fly what that sent.
func (g *Group) becomes(m *member, n api.Node, sent []api.Msg) {
	m.Node = n
	g.flight.add(sent...)
}

func (m *member) leads() bool { return m.up && m.Role == api.Leader }

// applied goes through the Data of the entries that are committed. An entry without Data is a Leader's first, and tells
// nothing.
func (m *member) applied(yield func(string) bool) {
	for _, e := range m.Log[:m.Commit] {
		if e.Data != "" && !yield(strings.Clone(e.Data)) {
			return
		}
	}
}

// fresh is the member's node in memory of its own.
func (m *member) fresh() api.Node {
	n := m.Node
	n.Log = slices.Clone(n.Log)
	for i, e := range n.Log {
		n.Log[i].Data = strings.Clone(e.Data)
	}
	n.Votes = slices.Clone(n.Votes)
	n.Next = slices.Clone(n.Next)
	n.Match = slices.Clone(n.Match)
	n.Forms = slices.Clone(n.Forms)
	return n
}
