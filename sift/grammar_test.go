package sift_test

import (
	"testing"

	"sift/api"
	"sift/sift"
)

// The document's grammar once more, read so that nothing is decided ahead: each
// function tells all places at which what it reads can end. (Places are bits.)
type grammar struct {
	text string
}

func (g grammar) at(i int) int {
	if i < len(g.text) {
		return int(g.text[i])
	}
	return -1
}

// all tells the ends of what may be read from any of the places.
func all(places int, read func(int) int) int {
	ends := 0
	for i := 0; places>>i != 0; i++ {
		if places>>i&1 == 1 {
			ends |= read(i)
		}
	}
	return ends
}

func (g grammar) literal(i int, c byte) int {
	if g.at(i) == int(c) {
		return 1 << (i + 1)
	}
	return 0
}

func (g grammar) pattern(i int) int {
	ends := g.branch(i)
	bars := all(ends, func(j int) int { return g.literal(j, '|') })
	return ends | all(bars, g.pattern)
}

func (g grammar) branch(i int) int {
	return 1<<i | all(g.piece(i), g.branch)
}

func (g grammar) piece(i int) int {
	ends := g.atom(i)
	for {
		more := ends | all(ends, g.repeat)
		if more == ends {
			return ends
		}
		ends = more
	}
}

func (g grammar) repeat(i int) int {
	ends := g.literal(i, '*') | g.literal(i, '+') | g.literal(i, '?')
	for m := byte('0'); m <= '9'; m++ {
		for _, s := range []string{"{" + string(m) + "}", "{" + string(m) + ",}"} {
			ends |= g.word(i, s)
		}
		for n := m; n <= '9'; n++ {
			ends |= g.word(i, "{"+string(m)+","+string(n)+"}")
		}
	}
	return ends
}

func (g grammar) word(i int, s string) int {
	if i+len(s) <= len(g.text) && g.text[i:i+len(s)] == s {
		return 1 << (i + len(s))
	}
	return 0
}

func (g grammar) atom(i int) int {
	switch g.at(i) {
	case -1, ')', '|', '*', '+', '?', '{':
		return 0
	case '(':
		return all(g.pattern(i+1), func(j int) int { return g.literal(j, ')') })
	case '[':
		return all(all(g.listBegin(i), g.items), func(j int) int { return g.literal(j, ']') })
	case '\\':
		return g.escaped(i)
	}
	return 1 << (i + 1)
}

func (g grammar) escaped(i int) int {
	if g.at(i) == '\\' && g.at(i+1) >= 0 {
		return 1 << (i + 2)
	}
	return 0
}

func (g grammar) listBegin(i int) int {
	if g.at(i+1) == '^' {
		return 1 << (i + 2)
	}
	return 1 << (i + 1)
}

func (g grammar) items(i int) int {
	ends := g.item(i)
	return ends | all(ends, g.items)
}

func (g grammar) item(i int) int {
	single := all(g.member(i), func(j int) int {
		if g.at(j) == '-' && g.at(j+1) >= 0 && g.at(j+1) != ']' {
			return 0
		}
		return 1 << j
	})
	return single | all(g.member(i), func(j int) int {
		return all(all(g.literal(j, '-'), g.member), func(k int) int {
			if g.at(k-1) < g.at(j-1) {
				return 0
			}
			return 1 << k
		})
	})
}

func (g grammar) member(i int) int {
	if g.at(i) == -1 || g.at(i) == ']' || g.at(i) == '\\' {
		return g.escaped(i)
	}
	return 1 << (i + 1)
}

func wantAsGrammar(t *testing.T, text string) {
	t.Helper()
	g := grammar{text: text}
	isPattern := g.pattern(0)>>len(text)&1 == 1
	_, e := sift.Check(text)
	if (e != api.ErrPattern) != isPattern {
		t.Errorf("P2: Check(%q) tells %d, and by the grammar it is a pattern: %v", text, e, isPattern)
	}
}

func TestCheckAllShortTexts(t *testing.T) {
	for _, text := range wordsOf("ab()[]|*?{}10,\\^$.-\n", 4) {
		wantAsGrammar(t, text)
	}
}

func TestCheckAllShortRepeats(t *testing.T) {
	for _, text := range wordsOf("0129,}*/:", 5) {
		wantAsGrammar(t, "a{"+text)
		wantAsGrammar(t, "(a{"+text+")")
	}
}

func TestCheckAllShortLists(t *testing.T) {
	for _, text := range wordsOf("]^-ab\\", 6) {
		wantAsGrammar(t, "["+text)
		wantAsGrammar(t, "["+text+"]")
	}
}
