// Package machine finds out which lines a pattern matches. It goes along a line
// once, with the set of all steps that can have been the latest one, so that
// its time grows with the line's length alone, however the pattern repeats.
package machine

import (
	"sift/api"
	"sift/syntax"
)

const (
	start = api.MaxSize     // in the set: a match can begin here
	found = api.MaxSize + 1 // in the set: a match has ended already

	startBit uint64 = 1 << start
	foundBit uint64 = 1 << found
)

// Machine is a pattern, made ready for lines.
type Machine struct {
	whole  bool
	next   [start + 1]uint64
	takes  [256]uint64 // the steps that each byte can be
	begins uint64      // the steps that are ^
	ends   uint64      // the steps that are $
	last   uint64      // a match can end behind these
}

// Build makes a machine of a pattern that syntax.Read has read.
func Build(pattern syntax.Pattern, fold bool, whole bool) Machine {
	all := write(pattern.Nodes)
	m := Machine{whole: whole, last: all.last}
	m.next[start] = all.first
	if all.empty {
		m.last |= startBit
	}
	for i := 0; i < all.count && i < api.MaxSize; i++ {
		m.next[i] = all.next[i]
		node := all.node[i]
		if node >= 0 && node < len(pattern.Nodes) {
			m.learn(uint64(1)<<uint(i), pattern.Nodes[node], fold)
		}
	}
	return m
}

func (m *Machine) learn(step uint64, node syntax.Node, fold bool) {
	switch node.Kind {
	case syntax.Begin:
		m.begins |= step
	case syntax.End:
		m.ends |= step
	case syntax.Bytes:
		m.learnBytes(step, node, fold)
	}
}

func (m *Machine) learnBytes(step uint64, node syntax.Node, fold bool) {
	for c := 0; c < 256; c++ {
		in := holds(node.Items, c)
		if fold && !in {
			in = holds(node.Items, otherCase(c))
		}
		if in != node.Not {
			m.takes[c] |= step
		}
	}
}

func holds(items []syntax.Item, c int) bool {
	for i := 0; i < len(items); i++ {
		if items[i].Low <= c && c <= items[i].High {
			return true
		}
	}
	return false
}

func otherCase(c int) int {
	if c >= 'A' && c <= 'Z' {
		return c - 'A' + 'a'
	}
	if c >= 'a' && c <= 'z' {
		return c - 'a' + 'A'
	}
	return c
}

// Matches tells whether a line is matched.
func (m *Machine) Matches(line string) bool {
	set := m.begin()
	for i := 0; i < len(line); i++ {
		set = m.behind(set, line[i])
	}
	return m.accepts(set, len(line) == 0)
}

func (m *Machine) begin() uint64 {
	return m.still(startBit, m.begins)
}

func (m *Machine) behind(set uint64, c byte) uint64 {
	steps := m.follow(set)
	after := steps & m.takes[c]
	if m.whole {
		return after
	}
	if set&m.last != 0 {
		after |= foundBit
	}
	return after | set&foundBit | startBit
}

// accepts asks whether the line is empty, because there its only place is the
// first and the last one, and ^ may still come behind $.
func (m *Machine) accepts(set uint64, empty bool) bool {
	free := m.ends
	if empty {
		free |= m.begins
	}
	set = m.still(set, free)
	return set&(m.last|foundBit) != 0
}

// still adds what can be reached without a byte, by the free steps alone. A way
// that goes through each step at most once is enough.
func (m *Machine) still(set uint64, free uint64) uint64 {
	for i := 0; i < api.MaxSize; i++ {
		steps := m.follow(set)
		set |= steps & free
	}
	return set
}

func (m *Machine) follow(set uint64) uint64 {
	var steps uint64
	for i := 0; i <= start; i++ {
		if has(set, i) {
			steps |= m.next[i]
		}
	}
	return steps
}
