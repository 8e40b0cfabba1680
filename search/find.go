package search

import "sift/api"

// line is a line with its number, and the places of the text between which it is.
type line struct {
	number int
	from   int
	to     int
}

// finder goes along a text, and looks into a symbol only where a line ends in it
// that is to be found.
type finder struct {
	search *Search
	most   int
	here   place
	lines  []line
}

// find tells the first selected lines, at most so many.
func (s *Search) find(most int) []line {
	f := finder{search: s, most: most}
	f.here.set = s.begin
	for i := 0; i < len(s.text.Start) && len(f.lines) < most; i++ {
		f.goOver(s.text.Start[i])
	}
	if f.here.isInLine() {
		f.goOver(api.Newline)
	}
	return f.lines
}

func (f *finder) goOver(symbol int) {
	p := f.search.piece(symbol)
	behind := f.here.behind(p)
	ends := f.search.countEnds(p, f.here.set)
	if ends > 0 && len(f.lines) < f.most {
		f.lookInto(symbol)
	}
	f.here = behind
}

// lookInto goes as deep as rules stand in rules, and no further, because in a
// rule only rules ahead of it stand. A byte in which a line ends is a newline.
func (f *finder) lookInto(symbol int) {
	if symbol < api.Rule {
		found := line{number: f.here.lines + 1, from: f.here.begin, to: f.here.at}
		f.lines = append(f.lines, found)
		return
	}
	rule := f.search.text.Rule(symbol)
	f.goOver(rule.Left)
	right := f.search.piece(rule.Right)
	if right.newlines > 0 {
		f.goOver(rule.Right)
	}
}
