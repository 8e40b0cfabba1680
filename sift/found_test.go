package sift_test

import (
	"fmt"
	"strings"
	"testing"

	"sift/api"
	"sift/sift"
)

// linesOf tells the lines of a text.
func linesOf(text string) []string {
	lines := strings.Split(text, "\n")
	if lines[len(lines)-1] == "" {
		lines = lines[:len(lines)-1]
	}
	return lines
}

func withNumber(number int, line string) string {
	return fmt.Sprintf("%d:%s\n", number, line)
}

// printed tells how many lines are selected, and how they are printed.
func printed(o api.Options, text string, selects func(line string) bool) (int, string) {
	count, out := 0, ""
	for i, line := range linesOf(text) {
		if !selects(line) || (o.Max > 0 && count == o.Max) {
			continue
		}
		count++
		if o.Number {
			out += withNumber(i+1, line)
		} else {
			out += line + "\n"
		}
	}
	return count, out
}

func wantPrinted(t *testing.T, o api.Options, pattern string, file string, text string, selects func(line string) bool) {
	t.Helper()
	count, out := printed(o, text, selects)
	wantCount(t, o, pattern, file, count)
	if len(out) > api.MaxOut {
		wantNoGrep(t, o, pattern, file, api.ErrOut)
	} else {
		wantGrep(t, o, pattern, file, out)
	}
}

// matchSelects asks Match of a line.
func matchSelects(t *testing.T, o api.Options, pattern string) func(line string) bool {
	return func(line string) bool {
		selected, e := sift.Match(o, pattern, line)
		if e != api.OK {
			t.Fatalf("P3: Match(%+v, %q, %q) tells %d", o, pattern, line, e)
		}
		return selected
	}
}

func (d *dice) allOptions() api.Options {
	o := d.options()
	o.Number = d.below(2) == 0
	if d.below(2) == 0 {
		o.Max = d.below(5)
	}
	return o
}

var somePatterns = []string{
	"", "a", "ab", "^a", "b$", "^$", "$^", "a.*b", "(a|b){2}", "^[^a]*$", "a+b?$", "(ab)+|^b", "a{2,}", "a^b", "a$b", "(^|b)a", "b(a|$)", "^.{2}$", "x*^b", "[^b]", "(aa)*b", "A", "[A-B]b", "\n", "(a?^|b)a($b?|$)",
}

func TestLinesOfShortTextsAsMatchSays(t *testing.T) {
	d := dice{state: 10}
	for _, text := range wordsOf("ab\n", 5) {
		files := packings(t, text)
		for i := range 2 * len(somePatterns) {
			o, pattern := d.allOptions(), somePatterns[i/2]
			wantPrinted(t, o, pattern, files[d.below(len(files))], text, matchSelects(t, o, pattern))
		}
	}
}

func TestLinesWithAllOptionsAsMatchSays(t *testing.T) {
	text := "ab\nB\n\nba\naAb\n\nb\nabab\n\na"
	files := packings(t, text)
	for bits := range 16 {
		o := api.Options{Invert: bits&1 > 0, Fold: bits&2 > 0, Whole: bits&4 > 0, Number: bits&8 > 0}
		for o.Max = range 11 {
			for i, pattern := range somePatterns {
				wantPrinted(t, o, pattern, files[(bits+i)%len(files)], text, matchSelects(t, o, pattern))
			}
		}
	}
}

// linedText makes up a text of some lines, long and short.
func (d *dice) linedText() string {
	var text []byte
	often := 1 + d.below(40)
	for range d.below(api.MaxText + 1) {
		c := "abAB"[d.below(4)]
		if d.below(often) == 0 {
			c = '\n'
		}
		text = append(text, c)
		if again := d.below(len(text)); d.below(8) == 0 && len(text)+again < api.MaxText {
			text = append(text, text[len(text)-again:]...)
		}
	}
	return string(text[:min(len(text), api.MaxText)])
}

func TestLinesOfTextsAsMatchSays(t *testing.T) {
	d := dice{state: 11}
	for range 60 {
		text := d.linedText()
		for _, file := range packings(t, text) {
			o, pattern := d.allOptions(), somePatterns[d.below(len(somePatterns))]
			wantPrinted(t, o, pattern, file, text, matchSelects(t, o, pattern))
		}
	}
}

// A text says the same however it is packed.
func TestLinesHoweverPacked(t *testing.T) {
	d := dice{state: 12}
	for range 40 {
		text := d.linedText()
		o, pattern := d.allOptions(), somePatterns[d.below(len(somePatterns))]
		count, out := printed(o, text, matchSelects(t, o, pattern))
		wantFound(t, o, pattern, text, count, out)
	}
}

func TestLinesAsTheDocumentSays(t *testing.T) {
	trees, texts := made(1500)
	d := dice{state: 13}
	for i, p := range trees {
		if p.size() > api.MaxSize {
			continue
		}
		text := ""
		for range d.below(12) {
			text += d.line() + "\n"
		}
		if d.below(2) == 0 {
			text += d.line()
		}
		files := packings(t, text)
		for range 4 {
			o := d.allOptions()
			selects := func(line string) bool { return p.selects(o, line) }
			wantPrinted(t, o, texts[i], files[d.below(len(files))], text, selects)
		}
	}
}

// Files of texts of all lengths: of a long one it is looked at the beginning.
func TestLinesOfMadeFiles(t *testing.T) {
	d := dice{state: 14}
	far := 0
	for i := range 2500 {
		file := []string{d.rulesFile(), d.codesFile()}[i%2]
		o, pattern := d.allOptions(), somePatterns[d.below(len(somePatterns))]
		m := modelOf(file)
		if m.errno != api.OK {
			wantNoLines(t, o, pattern, file, m.errno)
			continue
		}
		wantBothSides(t, o, pattern, file, m.info.Lines)
		text := m.cut(0, min(m.info.Length, 300))
		if m.info.Length > len(text) {
			far++
			text = text[:strings.LastIndex(text, "\n")+1]
			o.Max, _ = printed(api.Options{}, text, matchSelects(t, o, pattern))
		}
		if m.info.Length == len(text) || o.Max > 0 {
			wantPrinted(t, o, pattern, file, text, matchSelects(t, o, pattern))
		}
	}
	if far < 400 {
		t.Errorf("%d of the made files have a long text", far)
	}
}

// wantBothSides wants that each line is selected or, with Invert, not.
func wantBothSides(t *testing.T, o api.Options, pattern string, file string, lines int) {
	t.Helper()
	o.Max = 0
	some, _ := sift.Count(o, pattern, file)
	o.Invert = !o.Invert
	wantCount(t, o, pattern, file, lines-some)
}
