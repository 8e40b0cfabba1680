// Package search finds the lines of a packed text that are selected. What a
// symbol does to the lines it stands in is found out once, however often it
// stands somewhere, so that the time does not hang on the text's length.
package search

import (
	"sift/api"
	"sift/machine"
	"sift/packed"
)

// Search is a text, and what is found out of each of its symbols.
type Search struct {
	text   *packed.Text
	begin  machine.Set // what there is at the beginning of a line
	invert bool
	max    int
	pieces []piece // of the 256 bytes, and of the rules behind them
}

// New makes a text ready to be searched.
func New(text *packed.Text, m *machine.Machine, o api.Options) Search {
	s := Search{text: text, begin: m.Begin, invert: o.Invert, max: o.Max}
	s.pieces = make([]piece, api.Rule+len(text.Rules))
	for i := 0; i < len(s.pieces); i++ {
		if i < api.Rule {
			s.pieces[i] = pieceOfByte(i, m)
		} else {
			s.pieces[i] = s.pieceOfRule(i)
		}
	}
	return s
}

// pieceOfRule leaves out a rule that is longer than any text: it stands nowhere,
// and it can have more lines than an int can count.
func (s *Search) pieceOfRule(symbol int) piece {
	rule := s.text.Rule(symbol)
	if rule.Part.Length > api.MaxLength {
		return piece{}
	}
	left := s.piece(rule.Left)
	right := s.piece(rule.Right)
	return s.join(left, right)
}

func (s *Search) piece(symbol int) *piece {
	if symbol < 0 || symbol >= len(s.pieces) {
		return &piece{}
	}
	return &s.pieces[symbol]
}

// Count tells how many lines are selected.
func (s *Search) Count() int {
	count := 0
	here := place{set: s.begin}
	for i := 0; i < len(s.text.Start); i++ {
		p := s.piece(s.text.Start[i])
		count += s.countEnds(p, here.set)
		here = here.behind(p)
	}
	if here.isInLine() {
		p := s.piece(api.Newline)
		count += s.countEnds(p, here.set)
	}
	if s.max > 0 && count > s.max {
		return s.max
	}
	return count
}
