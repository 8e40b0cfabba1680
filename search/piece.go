package search

import (
	"sift/api"
	"sift/machine"
)

// piece tells of a symbol's bytes what can be told wherever they stand. Those
// ahead of its first newline end a line, and those behind its last one begin a
// line; where it has none, all of them stand within a line.
type piece struct {
	length   int
	newlines int

	way machine.Way // without a newline: the way through it

	// With newlines:
	inside int         // how many selected lines begin and end in it
	enough machine.Set // the line that it ends is matched if one of these is there ahead of it
	last   machine.Set // what there is behind it
	tail   int         // how many bytes stand behind its last newline
}

func pieceOfByte(c int, m *machine.Machine) piece {
	if c == api.Newline {
		return piece{length: 1, newlines: 1, enough: m.Enough, last: m.Begin}
	}
	way := m.Way(byte(c))
	return piece{length: 1, way: way}
}

// join tells of a with b behind it.
func (s *Search) join(a *piece, b *piece) piece {
	c := piece{length: a.length + b.length, newlines: a.newlines + b.newlines}
	if c.newlines == 0 {
		c.way = a.way.Then(b.way)
		return c
	}
	if a.newlines > 0 {
		c.enough = a.enough
		c.inside = a.inside + s.countEnds(b, a.last)
	} else {
		c.enough = a.way.Into(b.enough)
		c.inside = b.inside
	}
	if b.newlines > 0 {
		c.last = b.last
		c.tail = b.tail
	} else {
		c.last = b.way.From(a.last)
		c.tail = a.tail + b.length
	}
	return c
}

// countEnds tells how many selected lines end in a piece, when there is that set
// ahead of it.
func (s *Search) countEnds(p *piece, ahead machine.Set) int {
	if p.newlines == 0 {
		return 0
	}
	matched := ahead&p.enough != 0
	if matched != s.invert {
		return p.inside + 1
	}
	return p.inside
}

// place is a place of the text, and what is known of the line that it is in.
type place struct {
	at    int
	begin int // where the line begins
	lines int // how many lines have ended
	set   machine.Set
}

func (here place) isInLine() bool {
	return here.at > here.begin
}

// behind tells of the place behind a piece.
func (here place) behind(p *piece) place {
	there := place{at: here.at + p.length, begin: here.begin, lines: here.lines + p.newlines}
	if p.newlines == 0 {
		there.set = p.way.From(here.set)
		return there
	}
	there.begin = there.at - p.tail
	there.set = p.last
	return there
}
