// Package sift selects lines of packed texts by patterns: see DOC.md.
package sift

import (
	"sift/api"
	"sift/machine"
	"sift/packed"
	"sift/search"
	"sift/syntax"
)

// Check tells the size of a pattern (P2).
func Check(pattern string) (int, api.Errno) {
	p, e := syntax.Read(pattern)
	return p.Size, e
}

// Match tells whether a line is selected (P3).
func Match(o api.Options, pattern string, line string) (bool, api.Errno) {
	p, e := read(o, pattern)
	if e != api.OK {
		return false, e
	}
	if !isLine(line) {
		return false, api.ErrText
	}
	m := machine.Build(p, o.Fold, o.Whole)
	matched := m.Matches(line)
	return matched != o.Invert, api.OK
}

// read reads the pattern, where the options are such as there may be.
func read(o api.Options, pattern string) (syntax.Pattern, api.Errno) {
	if o.Max < 0 {
		return syntax.Pattern{}, api.ErrOptions
	}
	return syntax.Read(pattern)
}

// isLine looks at the length first, so that a line far too long costs nothing.
func isLine(line string) bool {
	if len(line) > api.MaxText {
		return false
	}
	for i := 0; i < len(line); i++ {
		if line[i] == api.Newline {
			return false
		}
	}
	return true
}

// Shape tells what a file is (P4).
func Shape(file string) (api.Info, api.Errno) {
	t, e := packed.Read(file)
	if e != api.OK {
		return api.Info{}, e
	}
	lines := t.Lines()
	return api.Info{Kind: t.Kind, Symbols: t.Symbols, Length: t.Whole.Length, Lines: lines}, api.OK
}

// Cut tells some bytes of a file's text (P5).
func Cut(file string, from int, to int) (string, api.Errno) {
	t, e := packed.Read(file)
	if e != api.OK {
		return "", e
	}
	if from < 0 || to < from || to > t.Whole.Length || to-from > api.MaxOut {
		return "", api.ErrRange
	}
	return t.Cut(from, to), api.OK
}

// PackZ packs a text by a table (P6).
func PackZ(text string, width int) (string, api.Errno) {
	if len(text) > api.MaxText {
		return "", api.ErrText
	}
	if width < api.MinWidth || width > api.MaxWidth {
		return "", api.ErrRange
	}
	return packed.WriteCodes(text, width), api.OK
}

// PackG packs a text by rules (P7).
func PackG(text string) (string, api.Errno) {
	if len(text) > api.MaxText {
		return "", api.ErrText
	}
	return packed.WriteRules(text), api.OK
}

// Count tells how many lines are selected (P8).
func Count(o api.Options, pattern string, file string) (int, api.Errno) {
	s, e := open(o, pattern, file)
	if e != api.OK {
		return 0, e
	}
	return s.Count(), api.OK
}

// Grep prints the lines that are selected (P9).
func Grep(o api.Options, pattern string, file string) (string, api.Errno) {
	s, e := open(o, pattern, file)
	if e != api.OK {
		return "", e
	}
	out, fits := s.Print(o.Number)
	if !fits {
		return "", api.ErrOut
	}
	return out, api.OK
}

// open makes a file's text ready to be searched.
func open(o api.Options, pattern string, file string) (search.Search, api.Errno) {
	p, e := read(o, pattern)
	if e != api.OK {
		return search.Search{}, e
	}
	t, e := packed.Read(file)
	if e != api.OK {
		return search.Search{}, e
	}
	m := machine.Build(p, o.Fold, o.Whole)
	return search.New(&t, &m, o), api.OK
}
