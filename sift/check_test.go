package sift_test

import (
	"strings"
	"testing"

	"sift/api"
	"sift/sift"
)

func wantSize(t *testing.T, pattern string, want int) {
	t.Helper()
	size, e := sift.Check(pattern)
	if size != want || e != api.OK {
		t.Errorf("P2: Check(%.60q) = %d, %d, want %d, 0", pattern, size, e, want)
	}
}

func wantRefused(t *testing.T, pattern string, want api.Errno) {
	t.Helper()
	size, e := sift.Check(pattern)
	if size != 0 || e != want {
		t.Errorf("P2: Check(%.60q) = %d, %d, want 0, %d", pattern, size, e, want)
	}
}

type sized struct {
	pattern string
	size    int
}

func wantSizes(t *testing.T, cases []sized) {
	t.Helper()
	for _, c := range cases {
		wantSize(t, c.pattern, c.size)
	}
}

func wantNoPatterns(t *testing.T, patterns []string) {
	t.Helper()
	for _, p := range patterns {
		wantRefused(t, p, api.ErrPattern)
	}
}

func TestCheckExamples(t *testing.T) {
	wantSizes(t, []sized{
		{"ab|c", 3}, {"", 1}, {"a|", 2}, {"(ab){3}", 6}, {"a{0}", 1}, {"a{2,5}{3}", 15}, {"()*", 1},
	})
	wantRefused(t, "a{9}{9}", api.ErrSize)
	wantNoPatterns(t, []string{"a{3,2}", "*a", "(a", "a)", "[]", "[b-a]", "a{12}", "a{", "\\"})
}

func TestCheckSizeOfBranches(t *testing.T) {
	wantSizes(t, []sized{
		{"a", 1}, {"abc", 3}, {"|", 2}, {"|||", 4}, {"|a", 2}, {"ab||cd", 5},
		{"()", 1}, {"()()", 2}, {"(|)", 2}, {"a()b", 3}, {"(a|b)(c|d)", 4}, {"((((ab))))", 2}, {"(())|", 2},
	})
}

func TestCheckSizeOfAtoms(t *testing.T) {
	wantSizes(t, []sized{
		{".", 1}, {"^", 1}, {"$", 1}, {"^$", 2}, {"x^y$z", 5}, {"[abc]", 1}, {"[^a-z0-9]", 1},
		{"\\\\", 1}, {"\\(\\)", 2}, {"\\|", 1}, {"\\\n", 1}, {"\\a\\[", 2},
		{"]", 1}, {"}", 1}, {"]}-,", 4}, {"\n", 1}, {"0,9", 3}, {"\x00\x80\xff", 3},
	})
}

func TestCheckSizeOfRepeats(t *testing.T) {
	wantSizes(t, []sized{
		{"a*", 1}, {"a+", 1}, {"a?", 1}, {"a*+?", 1}, {"(ab)*", 2}, {"(ab)+", 2}, {"(ab)?", 2},
		{"a{1}", 1}, {"a{3}", 3}, {"a{9}", 9}, {"a{3,}", 3}, {"a{0,}", 1}, {"a{1,}", 1}, {"a{9,}", 9},
		{"a{0}", 1}, {"a{0,0}", 1}, {"a{0,1}", 1}, {"a{0,7}", 7}, {"a{3,3}", 3}, {"a{2,9}", 9},
		{"(ab){0}", 2}, {"(abc){0,}", 3}, {"a{5}{0}", 5}, {"a{0}{5}", 5}, {"a{0}{0}", 1},
		{"a{2}{3}", 6}, {"a{2}*{3}", 6}, {"a{2,}{3,}", 6}, {"ab{3}", 4}, {"(a|b{2}){3}c", 10},
		{"(){4}", 4}, {"(|a){3}", 6}, {"^{3}", 3}, {"${2}", 2}, {"[ab]{4}", 4}, {".{4}", 4}, {"\\*{4}", 4},
	})
}

func TestCheckLists(t *testing.T) {
	wantSizes(t, []sized{
		{"[a]", 1}, {"[-]", 1}, {"[--]", 1}, {"[---]", 1}, {"[a-]", 1}, {"[-a]", 1}, {"[^-]", 1}, {"[^-a]", 1},
		{"[--a]", 1}, {"[+--]", 1}, {"[a-c-e]", 1}, {"[a-c-]", 1}, {"[a-c--]", 1}, {"[a-a]", 1}, {"[\x00-\xff]", 1}, {"[\x7f-\x80]", 1},
		{"[^^]", 1}, {"[a^]", 1}, {"[\\^]", 1}, {"[^^-a]", 1}, {"[a^-]", 1}, {"[a]]", 2}, {"[\\]]", 1}, {"[^\\]]", 1},
		{"[\\]-a]", 1}, {"[Z-\\]]", 1}, {"[\\--a]", 1}, {"[a\\-c]", 1}, {"[\\\\-a]", 1}, {"[a\\-]", 1}, {"[(|*+?.{$[]", 1}, {"[\n]", 1},
	})
	wantNoPatterns(t, []string{
		"[", "[^", "[]", "[^]", "[a", "[^a", "[a-", "[a-b", "[\\", "[a\\", "[\\]", "[a\\]", "[a-\\", "[a-\\]", "[]a", "[]-",
		"[b-a]", "[a--]", "[a-\\]]", "[a-A]", "[\x80-\x7f]", "[\xff-\x00]", "[x^-Z]", "[a-cd-b]", "[a-c--+]", "[a-b-c-a]", "x[", "(["})
}

func TestCheckWhatIsNoPattern(t *testing.T) {
	wantNoPatterns(t, []string{
		"*", "+", "?", "{", "{2}", "{2,3}", "a|*", "a|+b", "|?", "(*a)", "(+)", "({2})", "(|*)",
		"(", ")", "((", "())", "(()", ")(", "(a|b", "a|b)", "a(b", "a)b", "(]", "[(])",
		"a{", "a{}", "a{,}", "a{,2}", "a{1", "a{1,", "a{1,2", "a{12", "a{12}", "a{1,23}", "a{12,3}", "a{1,,2}", "a{1,2,3}",
		"a{x}", "a{1x}", "a{1,x}", "a{1;2}", "a{-1}", "a{ 1}", "a{1 }", "a{1, 2}", "a{/}", "a{:}", "a{1,:}", "a{1,/}", "a{\\1}",
		"a{1,0}", "a{9,8}", "a{2}{1,0}", "a{{2}}", "a{2", "a{2}{", "a{2,)", "(a{2)}",
		"a\\", "\\\\\\", "(\\)", "a|\\", "(\\",
	})
}

func TestCheckLengthLimit(t *testing.T) {
	wantSize(t, strings.Repeat("a", api.MaxPattern), api.MaxPattern)
	wantSize(t, strings.Repeat("|", api.MaxPattern), api.MaxPattern+1)
	wantSize(t, strings.Repeat("(", 20)+strings.Repeat(")", 20), 1)
	wantSize(t, "a"+strings.Repeat("*", api.MaxPattern-1), 1)
	wantSize(t, "["+strings.Repeat("a", api.MaxPattern-2)+"]", 1)
	wantRefused(t, strings.Repeat("a", api.MaxPattern+1), api.ErrSize)
	wantRefused(t, "a"+strings.Repeat("*", api.MaxPattern), api.ErrSize)
	wantRefused(t, strings.Repeat("(", api.MaxPattern), api.ErrPattern)
	wantRefused(t, strings.Repeat("a", api.MaxPattern-1)+"(", api.ErrPattern)
}

func TestCheckSizeLimit(t *testing.T) {
	wantSizes(t, []sized{
		{"a{9}{6}b{6}", api.MaxSize}, {"(){6}{5}{2}", api.MaxSize}, {"a{0}{9}{6}b{6}", api.MaxSize},
		{"(a{9}{3}bcd){2}", api.MaxSize}, {"a{2,6}{1,5}{0,2}", api.MaxSize}, {"a{6,}{5,}{2,}", api.MaxSize},
	})
	for _, p := range []string{
		"a{9}{6}b{7}", "a{9}{6}b{6}|", "(){9}{6}(){7}", "a{9}{9}", "(){9}{7}", "(a|){9}{4}", "(a{9}{3}bcde){2}",
		"a{0}{9}{9}", "a{9}{9}{0}", "(a{9}{9}){0}", "a{9}{9}?", "a{9,}{9,}", "a{0,9}{0,9}", "a" + strings.Repeat("{9}", 13),
	} {
		wantRefused(t, p, api.ErrSize)
	}
}

func TestCheckWhichErrorIsTold(t *testing.T) {
	wantRefused(t, strings.Repeat("*", api.MaxPattern+1), api.ErrSize)
	wantRefused(t, strings.Repeat("(", api.MaxPattern+1), api.ErrSize)
	wantRefused(t, "a{9}{9}(", api.ErrPattern)
	wantRefused(t, "a{9}{9}{3,2}", api.ErrPattern)
	wantRefused(t, "*a{9}{9}", api.ErrPattern)
	wantRefused(t, "a{9}{9}"+strings.Repeat("b", api.MaxPattern-6), api.ErrSize)
}
