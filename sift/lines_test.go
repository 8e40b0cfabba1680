package sift_test

import (
	"strconv"
	"strings"
	"testing"

	"sift/api"
	"sift/sift"
)

var (
	number = api.Options{Number: true}
)

func wantCount(t *testing.T, o api.Options, pattern string, file string, want int) {
	t.Helper()
	got, e := sift.Count(o, pattern, file)
	if got != want || e != api.OK {
		t.Errorf("P8: Count(%+v, %q, %.60q) = %d, %d, want %d, 0", o, pattern, file, got, e, want)
	}
}

func wantGrep(t *testing.T, o api.Options, pattern string, file string, want string) {
	t.Helper()
	got, e := sift.Grep(o, pattern, file)
	if got != want || e != api.OK {
		t.Errorf("P9: Grep(%+v, %q, %.60q) = %.60q, %d, want %.60q, 0", o, pattern, file, got, e, want)
	}
}

func wantNoGrep(t *testing.T, o api.Options, pattern string, file string, want api.Errno) {
	t.Helper()
	got, e := sift.Grep(o, pattern, file)
	if got != "" || e != want {
		t.Errorf("P9: Grep(%+v, %.60q, %.60q) = %.60q, %d, want nothing, %d", o, pattern, file, got, e, want)
	}
}

// wantNoLines wants an error of both calls.
func wantNoLines(t *testing.T, o api.Options, pattern string, file string, want api.Errno) {
	t.Helper()
	got, e := sift.Count(o, pattern, file)
	if got != 0 || e != want {
		t.Errorf("P8: Count(%+v, %.60q, %.60q) = %d, %d, want 0, %d", o, pattern, file, got, e, want)
	}
	wantNoGrep(t, o, pattern, file, want)
}

// wantFound wants that lines come out of a text however it is packed.
func wantFound(t *testing.T, o api.Options, pattern string, text string, count int, out string) {
	t.Helper()
	for _, file := range packings(t, text) {
		wantCount(t, o, pattern, file, count)
		wantGrep(t, o, pattern, file, out)
	}
}

// wantAlone wants that out of a text some lines alone are matched: their numbers
// stand ahead of them.
func wantAlone(t *testing.T, o api.Options, pattern string, text string, numbered ...string) {
	t.Helper()
	out := ""
	for _, line := range numbered {
		out += line + "\n"
	}
	o.Number = true
	wantFound(t, o, pattern, text, len(numbered), out)
}

const example = "one\ntwo\n\nthree"

func TestLinesExamples(t *testing.T) {
	wantFound(t, number, "e", example, 2, "1:one\n4:three\n")
	wantFound(t, plain, "e", example, 2, "one\nthree\n")
	wantFound(t, invert, "e", example, 2, "two\n\n")
	wantFound(t, plain, "", example, 4, "one\ntwo\n\nthree\n")
	wantFound(t, api.Options{Max: 3}, "", example, 3, "one\ntwo\n\n")
	wantFound(t, invert, "^.{3}$", example, 2, "\nthree\n")
}

func TestLinesThatThereAre(t *testing.T) {
	for _, c := range []struct {
		text     string
		numbered []string
	}{
		{"", nil},
		{"\n", []string{"1:"}},
		{"\n\n", []string{"1:", "2:"}},
		{"\n\n\n", []string{"1:", "2:", "3:"}},
		{"a", []string{"1:a"}},
		{"a\n", []string{"1:a"}},
		{"a\n\n", []string{"1:a", "2:"}},
		{"a\nb", []string{"1:a", "2:b"}},
		{"a\nb\n", []string{"1:a", "2:b"}},
		{"\na", []string{"1:", "2:a"}},
		{"\n\na\n", []string{"1:", "2:", "3:a"}},
		{"a\n\nb", []string{"1:a", "2:", "3:b"}},
		{"a\n\n\nb\n\n", []string{"1:a", "2:", "3:", "4:b", "5:"}},
		{"\r\x0b\x0c\x00\n\r\n", []string{"1:\r\x0b\x0c\x00", "2:\r"}},
	} {
		wantAlone(t, plain, "", c.text, c.numbered...)
		wantAlone(t, plain, "^", c.text, c.numbered...)
		wantAlone(t, whole, ".*", c.text, c.numbered...)
		wantAlone(t, invert, "x", c.text, c.numbered...)
		wantAlone(t, invert, "\n", c.text, c.numbered...)
		wantAlone(t, invert, "", c.text)
		wantAlone(t, plain, "x", c.text)
		wantFound(t, plain, "", c.text, len(c.numbered), withoutNumbers(c.numbered))
	}
}

func withoutNumbers(numbered []string) string {
	out := ""
	for _, line := range numbered {
		out += line[strings.Index(line, ":")+1:] + "\n"
	}
	return out
}

func TestLinesThatAreEmpty(t *testing.T) {
	text := "\na\n\n\nb\n\n"
	wantAlone(t, plain, "^$", text, "1:", "3:", "4:", "6:")
	wantAlone(t, plain, "$^", text, "1:", "3:", "4:", "6:")
	wantAlone(t, whole, "", text, "1:", "3:", "4:", "6:")
	wantAlone(t, whole, "a?", text, "1:", "2:a", "3:", "4:", "6:")
	wantAlone(t, plain, ".", text, "2:a", "5:b")
	wantAlone(t, plain, "[^x]", text, "2:a", "5:b")
	wantAlone(t, invert, "^$", text, "2:a", "5:b")
	wantAlone(t, invert, "$^", text, "2:a", "5:b")
	wantAlone(t, invert, ".", text, "1:", "3:", "4:", "6:")
}

// What ends a line is no byte of it, and no match goes from a line to the next.
func TestLinesEndAtNewlines(t *testing.T) {
	text := "ab\ncd\nab"
	for _, pattern := range []string{"\n", "b\nc", "b\\\nc", "b[\n]c", "b.c", "b[^x]c", "bc", "b.?.?c", "b$.?^c", "ab..+", "(b|$|\n)+c", "d{1,2}$\na"} {
		wantAlone(t, plain, pattern, text)
		wantAlone(t, fold, pattern, text)
		wantAlone(t, invert, pattern, text, "1:ab", "2:cd", "3:ab")
	}
	wantAlone(t, plain, "b|c", text, "1:ab", "2:cd", "3:ab")
	wantAlone(t, plain, "b$", text, "1:ab", "3:ab")
	wantAlone(t, plain, "^c", text, "2:cd")
	wantAlone(t, plain, "\n|d", text, "2:cd")
}

func TestLinesByTheirBothEnds(t *testing.T) {
	text := "ab\nb\na\nabc\ncab\n\nxaby"
	wantAlone(t, plain, "^ab$", text, "1:ab")
	wantAlone(t, plain, "^ab", text, "1:ab", "4:abc")
	wantAlone(t, plain, "ab$", text, "1:ab", "5:cab")
	wantAlone(t, plain, "a^b", text)
	wantAlone(t, plain, "a$b", text)
	wantAlone(t, plain, "a^*b", text, "1:ab", "4:abc", "5:cab", "7:xaby")
	wantAlone(t, plain, "a?^b", text, "2:b")
	wantAlone(t, plain, "a$b?", text, "3:a")
	wantAlone(t, plain, "x*^a", text, "1:ab", "3:a", "4:abc")
	wantAlone(t, plain, "(^|c)a", text, "1:ab", "3:a", "4:abc", "5:cab")
	wantAlone(t, plain, "b($|c)", text, "1:ab", "2:b", "4:abc", "5:cab")
	wantAlone(t, plain, "^a|b$", text, "1:ab", "2:b", "3:a", "4:abc", "5:cab")
	wantAlone(t, plain, "^.$", text, "2:b", "3:a")
	wantAlone(t, plain, "$.^", text)
	wantAlone(t, plain, "x^|^$|c$", text, "4:abc", "6:")
	wantAlone(t, plain, "$^|x", text, "6:", "7:xaby")
}

func TestLinesInvert(t *testing.T) {
	text := "ab\nc\n\nba\n"
	wantAlone(t, invert, "a", text, "2:c", "3:")
	wantAlone(t, invert, "^a", text, "2:c", "3:", "4:ba")
	wantAlone(t, invert, "c", text, "1:ab", "3:", "4:ba")
	wantAlone(t, invert, "", text)
	wantAlone(t, invert, "x", text, "1:ab", "2:c", "3:", "4:ba")
	wantAlone(t, api.Options{Invert: true, Whole: true}, "a|c", text, "1:ab", "3:", "4:ba")
	wantAlone(t, api.Options{Invert: true, Fold: true}, "A", text, "2:c", "3:")
	wantAlone(t, api.Options{Invert: true, Max: 1}, "a", text, "2:c")
	wantAlone(t, api.Options{Invert: true, Fold: true, Whole: true, Max: 2}, "AB", text, "2:c", "3:")
}

func TestLinesFold(t *testing.T) {
	text := "Ab\nAB\nab\n[\n{\n\xe4\n\xc4"
	wantAlone(t, fold, "ab", text, "1:Ab", "2:AB", "3:ab")
	wantAlone(t, fold, "aB", text, "1:Ab", "2:AB", "3:ab")
	wantAlone(t, plain, "ab", text, "3:ab")
	wantAlone(t, fold, "[a-b]$", text, "1:Ab", "2:AB", "3:ab")
	wantAlone(t, fold, "[^A]$", text, "1:Ab", "2:AB", "3:ab", "4:[", "5:{", "6:\xe4", "7:\xc4")
	wantAlone(t, fold, "^[^A]", text, "4:[", "5:{", "6:\xe4", "7:\xc4")
	wantAlone(t, plain, "^[^A]", text, "3:ab", "4:[", "5:{", "6:\xe4", "7:\xc4")
	wantAlone(t, fold, "\\[", text, "4:[")
	wantAlone(t, fold, "\xe4", text, "6:\xe4")
	wantAlone(t, api.Options{Fold: true, Whole: true}, "B|.A|aB", text, "1:Ab", "2:AB", "3:ab")
	wantAlone(t, api.Options{Fold: true, Max: 2}, "B", text, "1:Ab", "2:AB")
}

func TestLinesWhole(t *testing.T) {
	text := "aa\na\n\nab\naab"
	wantAlone(t, whole, "a", text, "2:a")
	wantAlone(t, whole, "a*", text, "1:aa", "2:a", "3:")
	wantAlone(t, whole, "a*b", text, "4:ab", "5:aab")
	wantAlone(t, whole, "a|ab", text, "2:a", "4:ab")
	wantAlone(t, whole, "^a+$", text, "1:aa", "2:a")
	wantAlone(t, whole, "(aa)*", text, "1:aa", "3:")
	wantAlone(t, plain, "a", text, "1:aa", "2:a", "4:ab", "5:aab")
	wantAlone(t, api.Options{Whole: true, Max: 1}, "a*b", text, "4:ab")
}

func TestLinesNumber(t *testing.T) {
	text := strings.Repeat("a\nb\n", 101) + "a"
	want := ""
	for i := 2; i <= 202; i += 2 {
		want += strconv.Itoa(i) + ":b\n"
	}
	wantFound(t, number, "b", text, 101, want)
	wantFound(t, plain, "b", text, 101, strings.Repeat("b\n", 101))
	wantFound(t, api.Options{Number: true, Invert: true, Max: 1}, "a|b", "a\n\nb\n", 1, "2:\n")
	wantFound(t, number, "x", "7:x\n:\nx:7", 2, "1:7:x\n3:x:7\n")
}

func TestLinesMax(t *testing.T) {
	text := "a\nb\na\n\na\na"
	all := []string{"1:a", "3:a", "5:a", "6:a"}
	others := []string{"2:b", "4:"}
	for most := 1; most < 8; most++ {
		wantAlone(t, api.Options{Max: most}, "a", text, all[:min(most, 4)]...)
		wantAlone(t, api.Options{Max: most, Invert: true}, "a", text, others[:min(most, 2)]...)
		wantAlone(t, api.Options{Max: most}, "x", text)
	}
	for _, most := range []int{0, 2001, 1 << 31, 1 << 40, 1<<63 - 1} {
		wantAlone(t, api.Options{Max: most}, "a", text, all...)
		wantAlone(t, api.Options{Max: most, Invert: true}, "a", text, others...)
		wantAlone(t, api.Options{Max: most}, "", "")
	}
	wantAlone(t, api.Options{Max: 1}, "b", "a\na\nb", "3:b")
	wantAlone(t, api.Options{Max: 1}, "b", "b\nb\nb", "1:b")
}

// Only the rules of ab and of the newline are there, so that the line reaches
// over all the other symbols, and rules.
func TestLinesOverManySymbols(t *testing.T) {
	file := rulesFile([]rule{{'a', 'b'}, {r0, r0}, {'c', '\n'}, {r0 + 2, r0}, {'\n', r0 + 3}}, r0+1, r0, 'x', r0+1, r0+3, 'y', r0, r0+4, r0+1, 'z')
	text := "abababxababc\nabyab\nc\nabababz"
	wantCut(t, file, 0, len(text), text)
	for _, c := range []struct {
		pattern string
		out     string
	}{
		{"^(ab)*x(ab)*c$", "1:abababxababc\n"},
		{"b{2}|y", "2:abyab\n"},
		{"^c", "3:c\n"},
		{"(ab){3}", "1:abababxababc\n4:abababz\n"},
		{"^(ab)+[xyz]", "1:abababxababc\n2:abyab\n4:abababz\n"},
		{"[^c]$", "2:abyab\n4:abababz\n"},
		{"xy|yx|zz|ca|ac|bb", ""},
	} {
		wantCount(t, plain, c.pattern, file, strings.Count(c.out, "\n"))
		wantGrep(t, number, c.pattern, file, c.out)
	}
	rules := doubled('a', 'b', 9)
	wantAlone(t, whole, "(ab)*", strings.Repeat("ab", 256), "1:"+strings.Repeat("ab", 256))
	wantGrep(t, whole, "(ab)*", rulesFile(rules, r0+8), strings.Repeat("ab", 256)+"\n")
	wantGrep(t, whole, "(ab)*", rulesFile(rules, 'a', r0+8, 'b'), "")
}

func TestLinesOfRulesThatStandNowhere(t *testing.T) {
	for _, o := range []api.Options{plain, invert, whole, number} {
		wantCount(t, o, "", rulesFile(doubled('a', '\n', 100)), 0)
		wantGrep(t, o, "", rulesFile(doubled('\n', '\n', 100)), "")
	}
	wantGrep(t, number, "a", rulesFile(doubled('a', '\n', 100), 'b', '\n', r0+1), "2:a\n3:a\n")
	wantGrep(t, number, "", rulesFile(doubled('\n', '\n', 100), 'b', 'c'), "1:bc\n")
	wantCount(t, invert, "a", rulesFile(doubled('b', '\n', 100), r0+3, r0+4), 24)
	wantCount(t, plain, "(ab){9}", rulesFile(doubled('a', 'b', 100), r0+2, '\n', r0+4), 1)
}

// A line may have more bytes than one that Match reads.
func TestLinesThatAreLong(t *testing.T) {
	long := strings.Repeat("ab", 512)
	rules := doubled('a', 'b', 20)
	file := rulesFile(rules, 'x', '\n', r0+9, '\n', r0+9, 'y', r0+8, '\n', 'z', r0+19)
	wantCount(t, plain, "", file, 4)
	wantCount(t, plain, "a", file, 3)
	wantCount(t, whole, "(ab)*", file, 1)
	wantCount(t, whole, "z?(abab)*", file, 2)
	wantCount(t, whole, "z?(ababab)*", file, 0)
	wantCount(t, whole, "z?ab(ababab)*", file, 0)
	wantCount(t, whole, "z?abab(ababab)*", file, 2)
	wantGrep(t, number, "^(ab)*$", file, "2:"+long+"\n")
	wantGrep(t, number, "by", file, "3:"+long+"y"+long[:512]+"\n")
	wantGrep(t, number, "x", file, "1:x\n")
	wantNoGrep(t, number, "z", file, api.ErrOut)
	wantCount(t, plain, "z", file, 1)
	wantMatchError(t, plain, "a", long, api.ErrText)
}

func TestLinesWhichErrorIsTold(t *testing.T) {
	long := strings.Repeat("a", api.MaxPattern+1)
	big := rulesFile(doubled('a', '\n', 41), r0+40)
	much := rulesFile(doubled('a', '\n', 40), r0+39)
	for _, file := range []string{"", "SG", big + "x", big, much, "SZ\x09"} {
		for _, most := range []int{-1, -2, -1 << 63} {
			for _, pattern := range []string{"a", "(", "a{9}{9}", long} {
				wantNoLines(t, api.Options{Max: most}, pattern, file, api.ErrOptions)
				wantNoLines(t, api.Options{Max: most, Invert: true, Number: true}, pattern, file, api.ErrOptions)
			}
		}
		for _, o := range []api.Options{plain, invert, number, {Max: 1, Fold: true, Whole: true}} {
			wantNoLines(t, o, "(", file, api.ErrPattern)
			wantNoLines(t, o, "a{9}{9}(", file, api.ErrPattern)
			wantNoLines(t, o, "a{9}{9}", file, api.ErrSize)
			wantNoLines(t, o, long, file, api.ErrSize)
			wantNoLines(t, o, long+"(", file, api.ErrSize)
		}
	}
	for _, o := range []api.Options{plain, invert, number, {Max: 1}} {
		for _, pattern := range []string{"", "a", "x"} {
			for _, file := range []string{"", "SG", "SA\x00\x00\x00", "SZ\x08", big + "x", "SZ\x09a", "SG\x00\x01\x00a", example} {
				wantNoLines(t, o, pattern, file, api.ErrFile)
			}
			wantNoLines(t, o, pattern, big, api.ErrBig)
		}
	}
	wantNoGrep(t, plain, "", much, api.ErrOut)
	wantCount(t, plain, "", much, 1<<39)
}
