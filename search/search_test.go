package search

import (
	"reflect"
	"strings"
	"testing"

	"sift/api"
	"sift/machine"
	"sift/packed"
	"sift/syntax"
)

func open(pattern string, file string, o api.Options) Search {
	p, _ := syntax.Read(pattern)
	t, _ := packed.Read(file)
	m := machine.Build(p, o.Fold, o.Whole)
	return New(&t, &m, o)
}

// unpack tells the bytes of a symbol.
func unpack(t *packed.Text, symbol int) string {
	if symbol < api.Rule {
		return string([]byte{byte(symbol)})
	}
	rule := t.Rule(symbol)
	return unpack(t, rule.Left) + unpack(t, rule.Right)
}

const someText = "ab\n\nabab\nxb\nab\n\nabab\nxb\nbaab\n\n\nabab\nx"

func TestPiecesTellOfTheirBytes(t *testing.T) {
	for _, file := range []string{packed.WriteRules(someText), packed.WriteCodes(someText, 9)} {
		for _, o := range []api.Options{{}, {Invert: true}, {Whole: true}} {
			s := open("^ab|b$", file, o)
			p, _ := syntax.Read("^ab|b$")
			m := machine.Build(p, o.Fold, o.Whole)
			for symbol := range s.pieces {
				got, bytes := s.piece(symbol), unpack(s.text, symbol)
				lines := strings.Split(bytes, "\n")
				inside := 0
				for i := 1; i+1 < len(lines); i++ {
					if m.Matches(lines[i]) != o.Invert {
						inside++
					}
				}
				tail := len(lines[len(lines)-1])
				if len(lines) == 1 {
					tail = 0
				}
				if got.length != len(bytes) || got.newlines != len(lines)-1 || got.tail != tail || got.inside != inside {
					t.Errorf("%+v: the piece of %q is %+v", o, bytes, got)
				}
			}
		}
	}
}

func TestLongestRulesAreLeftOut(t *testing.T) {
	file := "SG\x64\n\x00\n\x00"
	for k := range 99 {
		symbol := string([]byte{byte(k), 1})
		file += symbol + symbol
	}
	s := open("", file+"\x01\x00\x27\x01", api.Options{})
	for symbol := api.Rule; symbol < len(s.pieces); symbol++ {
		k := symbol - api.Rule
		p := s.piece(symbol)
		if k < 40 && (p.length != 2<<k || p.inside != 2<<k-1) || k >= 40 && *p != (piece{}) {
			t.Errorf("the piece of rule %d is %+v", k, p)
		}
	}
	if s.Count() != 1<<40 {
		t.Errorf("%d lines", s.Count())
	}
}

func TestPieceOfNoSymbol(t *testing.T) {
	s := open("", "SZ\x09", api.Options{})
	for _, symbol := range []int{-1, api.Rule, 1 << 40, -1 << 63, 1<<63 - 1} {
		if *s.piece(symbol) != (piece{}) {
			t.Errorf("the piece of %d is %+v", symbol, s.piece(symbol))
		}
	}
}

func TestFind(t *testing.T) {
	all := []line{{1, 0, 2}, {3, 4, 8}, {5, 12, 14}, {7, 16, 20}, {9, 24, 28}, {12, 31, 35}}
	for _, file := range []string{packed.WriteRules(someText), packed.WriteCodes(someText, 12)} {
		s := open("ab", file, api.Options{})
		for most := range 9 {
			got := s.find(most)
			if want := all[:min(most, len(all))]; len(got) != len(want) || (most > 0 && !reflect.DeepEqual(got, want)) {
				t.Errorf("find(%d) = %v, want %v", most, got, want)
			}
		}
	}
}

func TestFindEndsWithTheText(t *testing.T) {
	for text, want := range map[string][]line{
		"":     nil,
		"\n":   {{1, 0, 0}},
		"a":    {{1, 0, 1}},
		"a\n":  {{1, 0, 1}},
		"a\nb": {{1, 0, 1}, {2, 2, 3}},
	} {
		s := open("", packed.WriteRules(text), api.Options{})
		if got := s.find(9); !reflect.DeepEqual(got, want) {
			t.Errorf("%q: find = %v, want %v", text, got, want)
		}
	}
}

func TestASearchStaysAsItIs(t *testing.T) {
	for _, file := range []string{packed.WriteRules(someText), packed.WriteCodes(someText, 9)} {
		s := open("ab", file, api.Options{Max: 4})
		text, pieces := *s.text, append([]piece{}, s.pieces...)
		for range 2 {
			out, fits := s.Print(true)
			if s.Count() != 4 || out != "1:ab\n3:abab\n5:ab\n7:abab\n" || !fits {
				t.Errorf("%d lines, %q, %v", s.Count(), out, fits)
			}
		}
		again, _ := packed.Read(file)
		if !reflect.DeepEqual(pieces, s.pieces) || !reflect.DeepEqual(text, again) {
			t.Error("a search changed what it searches")
		}
	}
}

func BenchmarkGrep(b *testing.B) {
	file := packed.WriteRules(strings.Repeat(someText, 15))
	for range b.N {
		s := open("((.?){9}[a-z]{9}.*){3}", file, api.Options{Invert: true})
		s.Print(true)
	}
}
