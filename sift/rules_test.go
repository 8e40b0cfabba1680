package sift_test

import (
	"strings"
	"testing"

	"sift/api"
)

const r0 = api.Rule // the symbol of rule 0

func TestRulesExamples(t *testing.T) {
	wantText(t, "example 3", "SG\x01a\x00\n\x00\x02\x00\x00\x01\x00\x01", "a\na\n", 2, 2)
	wantText(t, "example 3", "SG\x01a\x00\n\x00\x03\x00\x00\x01\x00\x01b\x00", "a\na\nb", 3, 3)
	wantText(t, "example 4", "SG\x00\x00\x00", "", 0, 0)
	wantNoShape(t, "example 4", "SG\x01\x00\x01a\x00\x00\x00", api.ErrFile)
	rules := doubled('a', '\n', 40)
	wantShape(t, "example 5", rulesFile(rules, r0+39), api.Info{Kind: 'G', Symbols: 1, Length: 1099511627776, Lines: 549755813888})
	wantNoShape(t, "example 5", rulesFile(rules, r0+39, r0+39), api.ErrBig)
}

func TestRulesTexts(t *testing.T) {
	wantText(t, "bytes", rulesFile(nil, 'a', 'b', 'c'), "abc", 3, 1)
	wantText(t, "all bytes", rulesFile([]rule{{0, 255}}, 0, 255, r0), "\x00\xff\x00\xff", 3, 1)
	wantText(t, "a rule of rules", rulesFile([]rule{{'a', 'b'}, {r0, 'c'}, {'d', r0 + 1}, {r0 + 2, r0 + 1}}, r0+3, 'x', r0), "dabcabcxab", 3, 1)
	wantText(t, "a rule twice", rulesFile([]rule{{'a', 'b'}, {r0, r0}}, r0+1), "abab", 1, 1)
	wantText(t, "the same rule at two numbers", rulesFile([]rule{{'a', 'b'}, {'a', 'b'}}, r0+1, r0), "abab", 2, 1)
	wantText(t, "symbols that are rules alone", rulesFile([]rule{{'a', 'b'}}, r0, r0, r0), "ababab", 3, 1)
	wantText(t, "1000 symbols", rulesFile([]rule{{'a', 'b'}}, repeated(r0, 1000)...), strings.Repeat("ab", 1000), 1000, 1)
}

func repeated(symbol int, count int) []int {
	symbols := make([]int, count)
	for i := range symbols {
		symbols[i] = symbol
	}
	return symbols
}

func TestRulesLines(t *testing.T) {
	wantText(t, "one line", rulesFile(nil, 'a'), "a", 1, 1)
	wantText(t, "a line that has ended", rulesFile(nil, 'a', '\n'), "a\n", 2, 1)
	wantText(t, "a newline alone", rulesFile(nil, '\n'), "\n", 1, 1)
	wantText(t, "newlines alone", rulesFile([]rule{{'\n', '\n'}}, r0, '\n'), "\n\n\n", 2, 3)
	wantText(t, "a newline at first", rulesFile(nil, '\n', 'a'), "\na", 2, 2)
	wantText(t, "a newline that a rule begins with", rulesFile([]rule{{'\n', 'b'}}, 'a', r0), "a\nb", 2, 2)
	wantText(t, "a newline that a rule ends with", rulesFile([]rule{{'b', '\n'}, {'a', r0}}, r0+1), "ab\n", 1, 1)
	wantText(t, "a newline within, and none at the end", rulesFile([]rule{{'\n', 'b'}, {'a', r0}, {r0, r0 + 1}}, r0+2, 'c'), "\nba\nbc", 2, 3)
	wantText(t, "an empty line", rulesFile([]rule{{'a', '\n'}, {'\n', 'b'}}, r0, r0+1), "a\n\nb", 2, 3)
	wantText(t, "other ends of lines", rulesFile(nil, '\r', 11, 12, 0), "\r\x0b\x0c\x00", 4, 1)
}

func TestRulesThatStandNowhere(t *testing.T) {
	wantText(t, "a rule too long", rulesFile(doubled('a', '\n', 100), r0), "a\n", 1, 1)
	wantText(t, "a rule too long, and no symbol", rulesFile(doubled('a', 'b', 100)), "", 0, 0)
	wantText(t, "newlines alone", rulesFile(doubled('\n', '\n', 100), 'a'), "a", 1, 1)
	wantText(t, "one more than may be", rulesFile(append(doubled('a', 'b', 40), rule{r0 + 39, 'c'}), r0, 'x'), "abx", 2, 1)
	wantNoShape(t, "a rule of itself", rulesFile([]rule{{'a', 'b'}, {r0 + 1, 'a'}}, r0), api.ErrFile)
}

func TestRulesFarTexts(t *testing.T) {
	full := append(doubled('a', '\n', 40), rule{'b', 'c'})
	last := r0 + 39
	for _, c := range []struct {
		what  string
		rules []rule
		start []int
		lines int
	}{
		{"one symbol", full, []int{last}, 1 << 39},
		{"two symbols", full, []int{last - 1, last - 1}, 1 << 39},
		{"many symbols", full, []int{last - 1, last - 2, last - 3, last - 4, last - 4}, 1 << 39},
		{"newlines alone", doubled('\n', '\n', 40), []int{last}, 1 << 40},
		{"no newline", doubled('a', 'b', 40), []int{last}, 1},
		{"a newline at first", doubled('\n', 'b', 40), []int{last}, 1<<39 + 1},
	} {
		file := rulesFile(c.rules, c.start...)
		wantShape(t, c.what, file, api.Info{Kind: 'G', Symbols: len(c.start), Length: api.MaxLength, Lines: c.lines})
	}
}

func TestRulesTooBig(t *testing.T) {
	rules := doubled('a', '\n', 100)
	for length := 1; length < 60; length++ {
		rest := 1<<40 - 1<<min(length, 40)
		start := []int{r0 + length - 1}
		for k := 39; k > 0; k-- {
			if rest>>k&1 == 1 {
				start = append(start, r0+k-1)
			}
		}
		file := rulesFile(rules, start...)
		if length <= 40 {
			wantShape(t, "just as long as may be", file, api.Info{Kind: 'G', Symbols: len(start), Length: 1 << 40, Lines: 1 << 39})
		} else {
			wantNoShape(t, "a rule too long", file, api.ErrBig)
		}
		wantNoShape(t, "a byte more", rulesFile(rules, append(start, 'x')...), api.ErrBig)
		wantNoShape(t, "a byte more, at first", rulesFile(rules, append([]int{'x'}, start...)...), api.ErrBig)
	}
	wantNoShape(t, "1000 times the longest rule", rulesFile(rules, repeated(r0+99, 1000)...), api.ErrBig)
	wantNoShape(t, "1000 times a rule that may be", rulesFile(rules, repeated(r0+39, 1000)...), api.ErrBig)
	wantNoShape(t, "63 doublings", rulesFile(rules, r0+62), api.ErrBig)
	wantNoShape(t, "64 doublings", rulesFile(rules, r0+63, 'a'), api.ErrBig)
	wantNoShape(t, "newlines alone", rulesFile(doubled('\n', '\n', 64), r0+63), api.ErrBig)
	wantNoShape(t, "no file, and too big", rulesFile(rules, r0+99)+"x", api.ErrFile)
	wantNoShape(t, "no file, and too big", rulesFile(rules, r0+99, r0+100), api.ErrFile)
}

func TestRulesLimits(t *testing.T) {
	hundred := doubled('a', 'b', 100)
	wantText(t, "100 rules", rulesFile(hundred, r0+3), strings.Repeat("ab", 8), 1, 1)
	wantNoShape(t, "101 rules", rulesFile(doubled('a', 'b', 101), r0), api.ErrFile)
	wantNoShape(t, "255 rules", rulesFile(doubled('a', 'b', 255), r0), api.ErrFile)
	wantText(t, "1000 symbols", rulesFile(nil, repeated('a', 1000)...), strings.Repeat("a", 1000), 1000, 1)
	wantNoShape(t, "1001 symbols", rulesFile(nil, repeated('a', 1001)...), api.ErrFile)
	wantText(t, "100 rules and 1000 symbols", rulesFile(hundred, repeated(r0+1, 1000)...), strings.Repeat("abab", 1000), 1000, 1)
	wantNoShape(t, "65535 symbols", "SG\x00\xff\xff"+strings.Repeat("a\x00", 1900), api.ErrFile)
}

func TestRulesOfWrongSymbols(t *testing.T) {
	ab := []rule{{'a', 'b'}, {'c', 'd'}, {'e', 'f'}}
	for k := range 3 {
		for _, bad := range []int{r0 + k, r0 + k + 1, r0 + 3, r0 + 99, 512, 65535} {
			for side := range 2 {
				rules := append([]rule{}, ab...)
				rules[k][side] = bad
				wantNoShape(t, "a rule of no rule below it", rulesFile(rules, 'a'), api.ErrFile)
			}
		}
		for side := range 2 {
			for below := range k {
				rules := append([]rule{}, ab...)
				rules[k][side] = r0 + below
				wantShape(t, "a rule of one below it", rulesFile(rules, 'a'), api.Info{Kind: 'G', Symbols: 1, Length: 1, Lines: 1})
			}
		}
	}
	wantText(t, "the last rule", rulesFile(ab, 'a', r0+2), "aef", 2, 1)
	for _, bad := range []int{r0 + 3, r0 + 4, r0 + 99, 512, 65535} {
		wantNoShape(t, "no such rule", rulesFile(ab, 'a', bad), api.ErrFile)
		wantNoShape(t, "no such rule", rulesFile(ab, bad, 'a'), api.ErrFile)
	}
	wantNoShape(t, "a rule where there is none", rulesFile(nil, r0), api.ErrFile)
}

func TestRulesCutShort(t *testing.T) {
	file := rulesFile([]rule{{'a', 'b'}, {r0, 'c'}}, 'a', r0+1, 'b')
	wantText(t, "all of it", file, "aabcb", 3, 1)
	for i := range len(file) {
		wantNoShape(t, "a file cut short", file[:i], api.ErrFile)
	}
	for _, more := range []string{"\x00", "a", "a\x00", "SG\x00\x00\x00", file} {
		wantNoShape(t, "more behind a file", file+more, api.ErrFile)
		wantNoShape(t, "more ahead of a file", more+file, api.ErrFile)
	}
}
