package machine

import (
	"testing"

	"sift/syntax"
)

func build(text string, fold bool, whole bool) Machine {
	p, _ := syntax.Read(text)
	return Build(p, fold, whole)
}

func TestStepsAreAtMostTheSize(t *testing.T) {
	for _, text := range []string{"", "abc", "a{9}{6}b{6}", "a{0}", "(a|b){2,5}", "(){9}", "a{2,}{3,}", "^$|.*"} {
		p, _ := syntax.Read(text)
		all := write(p.Nodes)
		if all.count > p.Size {
			t.Errorf("%q has %d steps, and the size %d", text, all.count, p.Size)
		}
	}
}

func TestMatches(t *testing.T) {
	for _, c := range []struct {
		text  string
		fold  bool
		whole bool
		line  string
		want  bool
	}{
		{"ab+", false, false, "xabbx", true},
		{"ab+", false, true, "xabbx", false},
		{"ab+", true, true, "ABb", true},
		{"^b", false, false, "ab", false},
		{"$^", false, false, "", true},
		{"", false, true, "", true},
	} {
		m := build(c.text, c.fold, c.whole)
		if m.Matches(c.line) != c.want {
			t.Errorf("%q on %q (fold %v, whole %v): want %v", c.text, c.line, c.fold, c.whole, c.want)
		}
	}
}

func TestLinesLeaveTheMachineAsItIs(t *testing.T) {
	m := build("a+$", false, false)
	before := m
	for _, line := range []string{"aa", "", "ab", "ba"} {
		m.Matches(line)
	}
	if m != before {
		t.Error("a line changed the machine")
	}
}

// wayOf joins the ways of a line's bytes, of which there is at least one.
func wayOf(m *Machine, line string) Way {
	way := m.Way(line[0])
	for i := 1; i < len(line); i++ {
		way = way.Then(m.Way(line[i]))
	}
	return way
}

func TestWaysOfParts(t *testing.T) {
	for _, text := range []string{"", "ab", "^a", "b$", "a*b?$", "(ab){2,}", "x?^a", "a{9}{6}b{6}"} {
		for _, whole := range []bool{false, true} {
			m := build(text, false, whole)
			for _, line := range []string{"ab", "ba", "abab", "aabb", "xab", "bbbab"} {
				for i := 1; i < len(line); i++ {
					left, right := wayOf(&m, line[:i]), wayOf(&m, line[i:])
					set := left.From(m.Begin)
					if right.From(set) != wayOf(&m, line).From(m.Begin) {
						t.Errorf("%q: the way of %q from %q on is another one", text, line, line[i:])
					}
					if (right.From(set)&m.Enough != 0) != m.Matches(line) {
						t.Errorf("%q: %q is matched otherwise in two parts", text, line)
					}
					if (set&right.Into(m.Enough) != 0) != m.Matches(line) {
						t.Errorf("%q: %q is matched otherwise backwards", text, line)
					}
				}
			}
		}
	}
}

func TestWayOfNothing(t *testing.T) {
	m := build("a", false, false)
	none := Way{}
	if none.From(m.Begin) != 0 || none.Into(m.Enough) != 0 || none.Then(m.Way('a')) != none {
		t.Error("a way without a table goes somewhere")
	}
}

func TestBuildOfNoNodes(t *testing.T) {
	m := Build(syntax.Pattern{}, false, true)
	if !m.Matches("") || m.Matches("a") {
		t.Error("a pattern of no nodes is to match the empty line alone")
	}
}

func BenchmarkBuildAndMatch(b *testing.B) {
	line := string(make([]byte, 600))
	for range b.N {
		m := build("((.?){9}[a-z]{9}.*){3}", true, false)
		m.Matches(line)
	}
}
