// Package packed reads and writes packed files. What it reads, of both kinds, it
// turns into rules of two symbols each, so that what is found out of a rule's
// text is found out once, however often the rule stands somewhere.
package packed

import "sift/api"

// The kinds of files.
const (
	KindRules = 'G'
	KindCodes = 'Z'
)

// Text is the text of a file: what the symbols of Start stand for, one behind
// the other. A symbol below api.Rule is that byte, and api.Rule + k is rule k.
// In a rule only rules ahead of it stand.
type Text struct {
	Kind    int
	Symbols int // of the file: its symbols, or all its codes
	Rules   []Rule
	Start   []int
	Whole   Part
}

// Rule stands for what its two symbols stand for.
type Rule struct {
	Left  int
	Right int
	Part  Part
}

// Read reads a file whose text is not too long.
func Read(file string) (Text, api.Errno) {
	if len(file) > api.MaxFile || len(file) < 2 {
		return Text{}, api.ErrFile
	}
	var t Text
	isFile := false
	switch file[:2] {
	case "SG":
		t, isFile = readRules(file)
	case "SZ":
		t, isFile = readCodes(file)
	}
	if !isFile {
		return Text{}, api.ErrFile
	}
	if t.Whole.Length > api.MaxLength {
		return Text{}, api.ErrBig
	}
	return t, api.OK
}

// Part tells of what a symbol stands for.
func (t *Text) Part(symbol int) Part {
	if symbol < api.Rule {
		return partOfByte(symbol)
	}
	return t.Rule(symbol).Part
}

// Lines tells how many lines the text has.
func (t *Text) Lines() int {
	if t.Whole.Length > 0 && t.Whole.Last != api.Newline {
		return t.Whole.Newlines + 1
	}
	return t.Whole.Newlines
}

// Rule tells the rule that a symbol stands for.
func (t *Text) Rule(symbol int) Rule {
	k := symbol - api.Rule
	if k < 0 || k >= len(t.Rules) {
		return Rule{}
	}
	return t.Rules[k]
}

func (t *Text) addRule(left int, right int) {
	a := t.Part(left)
	b := t.Part(right)
	rule := Rule{Left: left, Right: right, Part: join(a, b)}
	t.Rules = append(t.Rules, rule)
}

func (t *Text) addToStart(symbol int) {
	part := t.Part(symbol)
	t.Start = append(t.Start, symbol)
	t.Whole = join(t.Whole, part)
}
