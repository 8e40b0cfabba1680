package sift_test

import (
	"strings"
	"testing"

	"sift/api"
	"sift/sift"
)

// wantRules wants the very bytes of a file, and that it has the text again.
func wantRules(t *testing.T, what string, text string, rules []rule, start ...int) {
	t.Helper()
	want := rulesFile(rules, start...)
	got, e := sift.PackG(text)
	if got != want || e != api.OK {
		t.Errorf("P7: %s: PackG(%.60q) = %.60q, %d, want %.60q, 0", what, text, got, e, want)
	}
	wantText(t, what, got, text, len(start), lineCount(text))
}

func wantNoRules(t *testing.T, text string, want api.Errno) {
	t.Helper()
	got, e := sift.PackG(text)
	if got != "" || e != want {
		t.Errorf("P7: PackG(%.60q) = %.60q, %d, want nothing, %d", text, got, e, want)
	}
}

func TestPackGBytes(t *testing.T) {
	for _, c := range []struct {
		text string
		want string
	}{
		{"", "SG\x00\x00\x00"},
		{"a", "SG\x00\x01\x00a\x00"},
		{"\xff\x00", "SG\x00\x02\x00\xff\x00\x00\x00"},
		{"abab", "SG\x01a\x00b\x00\x02\x00\x00\x01\x00\x01"},
		{"aaaa", "SG\x01a\x00a\x00\x02\x00\x00\x01\x00\x01"},
		{"aaa", "SG\x00\x03\x00a\x00a\x00a\x00"},
		{"xyxyxy", "SG\x01x\x00y\x00\x03\x00\x00\x01\x00\x01\x00\x01"},
	} {
		got, e := sift.PackG(c.text)
		if got != c.want || e != api.OK {
			t.Errorf("P7: PackG(%q) = %q, %d, want %q, 0", c.text, got, e, c.want)
		}
	}
}

func TestPackGTexts(t *testing.T) {
	wantRules(t, "no pair twice", "abcdefg\n", nil, numbersOf("abcdefg\n")...)
	wantRules(t, "a pair twice", "ab.ab", []rule{{'a', 'b'}}, r0, '.', r0)
	wantRules(t, "a pair at the end alone", "xabab", []rule{{'a', 'b'}}, 'x', r0, r0)
	wantRules(t, "rules of rules", "abcabc", []rule{{'a', 'b'}, {r0, 'c'}}, r0+1, r0+1)
	wantRules(t, "a rule of a rule twice", "xyxyxyxy", []rule{{'x', 'y'}, {r0, r0}}, r0+1, r0+1)
	wantRules(t, "a pair backwards is another one", "abba", nil, 'a', 'b', 'b', 'a')
	wantRules(t, "newlines", "a\nb\na\nb", []rule{{'\n', 'b'}, {'a', r0}}, r0+1, '\n', r0+1)
	wantRules(t, "example 8", "one\ntwo\n\nthree", []rule{{'\n', 't'}}, 'o', 'n', 'e', r0, 'w', 'o', '\n', r0, 'h', 'r', 'e', 'e')
}

func TestPackGTwoAlike(t *testing.T) {
	aa := []rule{{'a', 'a'}}
	wantRules(t, "two in a row", "aa", nil, 'a', 'a')
	wantRules(t, "three in a row", "aaa", nil, 'a', 'a', 'a')
	wantRules(t, "four in a row", "aaaa", aa, r0, r0)
	wantRules(t, "five in a row", "aaaaa", aa, r0, r0, 'a')
	wantRules(t, "six in a row", "aaaaaa", aa, r0, r0, r0)
	wantRules(t, "seven in a row", "aaaaaaa", aa, r0, r0, r0, 'a')
	wantRules(t, "eight in a row", "aaaaaaaa", append(aa, rule{r0, r0}), r0+1, r0+1)
	wantRules(t, "two rows of two", "aabaa", aa, r0, 'b', r0)
	wantRules(t, "two rows of three", "aaabaaa", append(aa, rule{r0, 'a'}), r0+1, 'b', r0+1)
	wantRules(t, "three in a row are the pair once", "aaabab", []rule{{'a', 'b'}}, 'a', 'a', r0, r0)
	wantRules(t, "three rules in a row", "abxyxyxyab", []rule{{'x', 'y'}, {'a', 'b'}}, r0+1, r0, r0, r0, r0+1)
}

func TestPackGWhichPair(t *testing.T) {
	wantRules(t, "the one that stands there most often", "ababyzyzyz", []rule{{'y', 'z'}, {'a', 'b'}}, r0+1, r0+1, r0, r0, r0)
	wantRules(t, "the least first symbol", "cdabcdab", []rule{{'a', 'b'}, {'c', 'd'}, {r0 + 1, r0}}, r0+2, r0+2)
	wantRules(t, "the least first symbol, met last", "babab", []rule{{'a', 'b'}}, 'b', r0, r0)
	wantRules(t, "the least first symbol, not the least second one", "zayzay", []rule{{'a', 'y'}, {'z', r0}}, r0+1, r0+1)
	wantRules(t, "the least second symbol", "acabacab", []rule{{'a', 'b'}, {'a', 'c'}, {r0 + 1, r0}}, r0+2, r0+2)
	wantRules(t, "bytes above 127 are great", "\xff\xfe\x01\xff\xfe\x01", []rule{{0xfe, 1}, {0xff, r0}}, r0+1, r0+1)
	wantRules(t, "rules are greater than bytes", "aab\xffaab\xff", []rule{{'a', 'a'}, {'b', 0xff}, {r0, r0 + 1}}, r0+2, r0+2)
}

// 600 is 512 and 64 and 16 and 8.
func TestPackGOfOneByteAlone(t *testing.T) {
	rules := doubled('a', 'a', 8)
	wantRules(t, "600 bytes", strings.Repeat("a", 600), rules, r0+7, r0+7, r0+5, r0+3, r0+2)
}

func TestPackGLimits(t *testing.T) {
	longest := apart(api.MaxText)
	wantRules(t, "600 bytes", longest, nil, numbersOf(longest)...)
	wantNoRules(t, longest+"a", api.ErrText)
	wantNoRules(t, strings.Repeat("a", 601), api.ErrText)
	wantNoRules(t, strings.Repeat("ab", 5000000), api.ErrText)
}

// The 256 bytes twice: each pair of neighbours stands there twice, and again and
// again the least one is of the two least bytes that are left.
func TestPackGAllTheRules(t *testing.T) {
	var rules []rule
	var half []int
	for k := range api.MaxRules {
		rules = append(rules, rule{2 * k, 2*k + 1})
		half = append(half, r0+k)
	}
	for c := 2 * api.MaxRules; c < 256; c++ {
		half = append(half, c)
	}
	wantRules(t, "100 rules, and more to be found", apart(256)+apart(256), rules, append(half, half...)...)
}

// Some bytes twice become one symbol twice by a rule less than they are.
func TestPackGMaxRules(t *testing.T) {
	for count := 2; count < 110; count++ {
		file, _ := sift.PackG(apart(count) + apart(count))
		rules := min(count-1, api.MaxRules)
		info, e := sift.Shape(file)
		if e != api.OK || int(file[2]) != rules || info.Symbols != 2*(count-rules) {
			t.Errorf("P7: PackG of %d bytes twice has %d rules, %d symbols, want %d, %d", count, file[2], info.Symbols, rules, 2*(count-rules))
		}
	}
}

func TestPackGAsTheDocumentSays(t *testing.T) {
	for _, text := range append(wordsOf("ab\n", 7), wordsOf("ab", 11)...) {
		rules, start := rulesAsTheDocumentSays(text)
		wantRules(t, "a short text", text, rules, start...)
	}
	d := dice{state: 6}
	for range 300 {
		text := d.text()
		rules, start := rulesAsTheDocumentSays(text)
		wantRules(t, "as the model", text, rules, start...)
	}
}

func TestPackGOfManyRulesAsTheDocumentSays(t *testing.T) {
	d := dice{state: 7}
	most := 0
	for range 60 {
		half := make([]byte, 110+d.below(190))
		for i := range half {
			half[i] = byte(d.below(256))
		}
		text := string(half) + string(half)
		rules, start := rulesAsTheDocumentSays(text)
		wantRules(t, "as the model", text, rules, start...)
		if len(rules) == api.MaxRules && len(start) > 2 {
			most++
		}
	}
	if most < 20 {
		t.Errorf("%d texts of these have all the rules that may be", most)
	}
}

func rulesAsTheDocumentSays(text string) ([]rule, []int) {
	symbols := numbersOf(text)
	var rules []rule
	for len(rules) < 100 {
		counts := map[rule]int{}
		most := 0
		for i := 1; i < len(symbols); i++ {
			pair := rule{symbols[i-1], symbols[i]}
			if counts[pair] == 0 {
				along, _ := goAlong(symbols, pair, 0)
				counts[pair] = along
				most = max(most, along)
			}
		}
		if most < 2 {
			break
		}
		taken := rule{1 << 30, 1 << 30}
		for pair, count := range counts {
			less := pair[0] < taken[0] || pair[0] == taken[0] && pair[1] < taken[1]
			if count == most && less {
				taken = pair
			}
		}
		_, symbols = goAlong(symbols, taken, 256+len(rules))
		rules = append(rules, taken)
	}
	return rules, symbols
}

// goAlong tells how often a pair is met, and the symbols with another in its place.
func goAlong(symbols []int, pair rule, instead int) (int, []int) {
	count := 0
	out := make([]int, 0, len(symbols))
	for i := 0; i < len(symbols); {
		if i+1 < len(symbols) && symbols[i] == pair[0] && symbols[i+1] == pair[1] {
			count++
			out = append(out, instead)
			i += 2
		} else {
			out = append(out, symbols[i])
			i++
		}
	}
	return count, out
}
