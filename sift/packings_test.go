package sift_test

import (
	"slices"
	"testing"

	"sift/api"
	"sift/sift"
)

// packings are files of one text: as the program packs it, symbol by symbol, and
// with rules that come about in other ways.
func packings(t *testing.T, text string) []string {
	t.Helper()
	last := func(n int) int { return n - 1 }
	first := func(n int) int { return 0 }
	middle := func(n int) int { return n / 2 }
	d := dice{state: uint64(len(text))}
	files := []string{
		rulesFile(nil, numbersOf(text)...), paired(text, first), paired(text, last), paired(text, middle), paired(text, d.below), cleared(text, 9),
	}
	for width := api.MinWidth; width <= api.MaxWidth; width++ {
		files = append(files, packedBy(t, text, width))
	}
	return append(files, packedBy(t, text, 0))
}

// packedBy packs with a width or, where it is 0, by rules.
func packedBy(t *testing.T, text string, width int) string {
	t.Helper()
	file, e := sift.PackZ(text, width)
	if width == 0 {
		file, e = sift.PackG(text)
	}
	if e != api.OK {
		t.Fatalf("%.60q is not packed: %d", text, e)
	}
	return file
}

// paired makes a rule of two neighbours, for their place alone, as long as there
// may be one more: of n places pick tells which one.
func paired(text string, pick func(n int) int) string {
	symbols := numbersOf(text)
	var rules []rule
	for len(rules) < api.MaxRules && len(symbols) > 1 {
		at := pick(len(symbols) - 1)
		rules = append(rules, rule{symbols[at], symbols[at+1]})
		symbols = slices.Replace(symbols, at, at+2, r0+len(rules)-1)
	}
	return rulesFile(rules, symbols...)
}

// cleared empties the table behind each 20 bytes.
func cleared(text string, width int) string {
	var codes []int
	for from := 0; from < len(text); from += 20 {
		chunk := text[from:min(from+20, len(text))]
		codes = append(codes, codesAsTheDocumentSays(chunk, width)...)
		codes = append(codes, api.Clear)
	}
	return codesFile(width, codes...)
}

func TestPackingsHaveTheText(t *testing.T) {
	d := dice{state: 9}
	texts := []string{"", "\n", "a\nb", d.text(), d.text()}
	for _, text := range texts {
		for _, file := range packings(t, text) {
			length := min(len(text), api.MaxOut)
			wantCut(t, file, 0, length, text)
			wantNoCut(t, file, 0, length+1, api.ErrRange)
		}
	}
}
