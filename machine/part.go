package machine

import (
	"sift/api"
	"sift/syntax"
)

// part is a part of a pattern with its repeats written out. Each byte, ^ and $
// in it is a step, numbered from 0; a set of steps has the bit of each of them.
// A pattern's size is at least the number of its steps, so that a set of them
// goes into one number.
type part struct {
	count int
	empty bool // matches without any step
	first Set
	last  Set
	next  [api.MaxSize]Set
	node  [api.MaxSize]int // the pattern's node that the step is made from
}

// write writes out a whole pattern, each node when those that it is made of
// are there.
func write(nodes []syntax.Node) part {
	whole := part{empty: true}
	var parts []part
	for i := 0; i < len(nodes); i++ {
		whole = partOf(nodes[i], i, parts)
		parts = append(parts, whole)
	}
	return whole
}

func partOf(node syntax.Node, number int, parts []part) part {
	left := partAt(parts, node.Left)
	right := partAt(parts, node.Right)
	switch node.Kind {
	case syntax.Nothing:
		return part{empty: true}
	case syntax.Both:
		return both(left, right)
	case syntax.Either:
		return either(left, right)
	case syntax.Repeat:
		return repeated(left, node.Least, node.Most)
	}
	step := part{count: 1, first: 1, last: 1}
	step.node[0] = number
	return step
}

func partAt(parts []part, number int) part {
	if number < 0 || number >= len(parts) {
		return part{empty: true}
	}
	return parts[number]
}

func both(a part, b part) part {
	c := beside(a, b)
	first := b.first << uint(a.count)
	c.empty = a.empty && b.empty
	c.first = a.first
	if a.empty {
		c.first |= first
	}
	c.last = b.last << uint(a.count)
	if b.empty {
		c.last |= a.last
	}
	return linked(c, a.last, first)
}

func either(a part, b part) part {
	c := beside(a, b)
	c.empty = a.empty || b.empty
	c.first = a.first | b.first<<uint(a.count)
	c.last = a.last | b.last<<uint(a.count)
	return c
}

// repeated lays copies one behind the other. Where there is no upper bound, the
// last copy stands for all that may still come.
func repeated(a part, least int, most int) part {
	times := most
	if most == syntax.Endless {
		times = least
		if times < 1 {
			times = 1
		}
	}
	c := part{empty: true}
	for k := 1; k <= times; k++ {
		one := a
		if most == syntax.Endless && k == times {
			one = linked(one, a.last, a.first)
		}
		if k > least {
			one.empty = true
		}
		c = both(c, one)
	}
	return c
}

// beside takes the steps of a, and behind them those of b, with no way from
// the ones to the others yet.
func beside(a part, b part) part {
	c := part{count: a.count + b.count, next: a.next, node: a.node}
	for i := 0; i < b.count && a.count+i < api.MaxSize; i++ {
		c.next[a.count+i] = b.next[i] << uint(a.count)
		c.node[a.count+i] = b.node[i]
	}
	return c
}

func linked(a part, from Set, to Set) part {
	for i := 0; i < api.MaxSize; i++ {
		if from.has(i) {
			a.next[i] |= to
		}
	}
	return a
}
