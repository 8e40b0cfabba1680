// Package machine finds out which lines a pattern matches. It goes along a line
// once, with the set of all steps that can have been the latest one, so that
// its time grows with the line's length alone, however the pattern repeats.
package machine

import (
	"sift/api"
	"sift/syntax"
)

// Machine is a pattern, made ready for lines.
type Machine struct {
	Begin  Set // what there is ahead of a line's first byte
	Enough Set // a line is matched if one of these is there behind its last byte

	next   table
	takes  [256]Set // the states that each byte can lead to
	begins Set      // the steps that are ^
	ends   Set      // the steps that are $
	last   Set      // a match can end behind these
}

// Build makes a machine of a pattern that syntax.Read has read.
func Build(pattern syntax.Pattern, fold bool, whole bool) Machine {
	all := write(pattern.Nodes)
	m := Machine{last: all.last}
	m.next.to[start] = all.first
	if all.empty {
		m.last |= startBit
	}
	for i := 0; i < all.count && i < api.MaxSize; i++ {
		m.next.to[i] = all.next[i]
		node := all.node[i]
		if node >= 0 && node < len(pattern.Nodes) {
			m.learn(Set(1)<<uint(i), pattern.Nodes[node], fold)
		}
	}
	m.findEnds()
	if !whole {
		m.allowAnywhere()
	}
	return m
}

func (m *Machine) learn(state Set, node syntax.Node, fold bool) {
	switch node.Kind {
	case syntax.Begin:
		m.begins |= state
	case syntax.End:
		m.ends |= state
	case syntax.Bytes:
		m.learnBytes(state, node, fold)
	}
}

func (m *Machine) learnBytes(state Set, node syntax.Node, fold bool) {
	for c := 0; c < 256; c++ {
		in := holds(node.Items, c)
		if fold && !in {
			in = holds(node.Items, otherCase(c))
		}
		if in != node.Not {
			m.takes[c] |= state
		}
	}
}

func holds(items []syntax.Item, c int) bool {
	for i := 0; i < len(items); i++ {
		if items[i].Low <= c && c <= items[i].High {
			return true
		}
	}
	return false
}

func otherCase(c int) int {
	if c >= 'A' && c <= 'Z' {
		return c - 'A' + 'a'
	}
	if c >= 'a' && c <= 'z' {
		return c - 'a' + 'A'
	}
	return c
}

// findEnds finds out what is at the two ends of a line. In an empty line they are
// the same place, where ^ may still come behind $: that is why fresh is there.
func (m *Machine) findEnds() {
	begins := Way{table: &m.next, takes: m.begins}
	m.Begin = startBit | freshBit
	for i := 0; i < api.MaxSize; i++ {
		m.Begin |= begins.From(m.Begin)
	}
	m.Enough = m.enoughBy(m.ends)
	if m.Begin&m.enoughBy(m.ends|m.begins) != 0 {
		m.Enough |= freshBit
	}
}

// enoughBy tells behind which states a match ends without a byte more, where it
// can go on by the free steps. A way that goes through each of them at most once
// is enough.
func (m *Machine) enoughBy(free Set) Set {
	way := Way{table: &m.next, takes: free}
	enough := m.last | foundBit
	for i := 0; i < api.MaxSize && free != 0; i++ {
		enough |= way.Into(enough)
	}
	return enough
}

// allowAnywhere lets a match begin and end within a line: each byte goes from
// start to start again, and from the end of a match to found, as a step would.
func (m *Machine) allowAnywhere() {
	m.next.to[start] |= startBit
	for i := 0; i < states; i++ {
		if m.last.has(i) || i == found {
			m.next.to[i] |= foundBit
		}
	}
	for c := 0; c < len(m.takes); c++ {
		m.takes[c] |= startBit | foundBit
	}
}

// Way tells the way through one byte.
func (m *Machine) Way(c byte) Way {
	return Way{table: &m.next, takes: m.takes[c]}
}

// Matches tells whether a line is matched.
func (m *Machine) Matches(line string) bool {
	set := m.Begin
	for i := 0; i < len(line); i++ {
		way := m.Way(line[i])
		set = way.From(set)
	}
	return set&m.Enough != 0
}
