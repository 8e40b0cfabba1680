package sift_test

import (
	"strings"
	"testing"

	"sift/api"
	"sift/sift"
)

var (
	plain  = api.Options{}
	fold   = api.Options{Fold: true}
	whole  = api.Options{Whole: true}
	invert = api.Options{Invert: true}
)

func wantSelected(t *testing.T, o api.Options, pattern string, line string, want bool) {
	t.Helper()
	got, e := sift.Match(o, pattern, line)
	if got != want || e != api.OK {
		t.Errorf("P3: Match(%+v, %q, %.60q) = %v, %d, want %v, 0", o, pattern, line, got, e, want)
	}
}

func wantMatchError(t *testing.T, o api.Options, pattern string, line string, want api.Errno) {
	t.Helper()
	got, e := sift.Match(o, pattern, line)
	if got || e != want {
		t.Errorf("P3: Match(%+v, %.60q, %.60q) = %v, %d, want false, %d", o, pattern, line, got, e, want)
	}
}

type lines struct {
	o       api.Options
	pattern string
	yes     []string
	no      []string
}

func wantLines(t *testing.T, cases []lines) {
	t.Helper()
	for _, c := range cases {
		for _, line := range c.yes {
			wantSelected(t, c.o, c.pattern, line, true)
		}
		for _, line := range c.no {
			wantSelected(t, c.o, c.pattern, line, false)
		}
	}
}

func TestMatchExamples(t *testing.T) {
	wantLines(t, []lines{
		{plain, "b+", []string{"abba"}, nil},
		{whole, "b+", nil, []string{"abba"}},
		{whole, "a.*a", []string{"abba"}, nil},
		{plain, "^a|b$", []string{"ax", "xb"}, []string{"xax"}},
		{plain, "^$", []string{""}, []string{"a", "aa"}},
		{fold, "[a-c]x", []string{"BX"}, nil},
		{fold, "[^a]", nil, []string{"A"}},
		{plain, "x^", nil, []string{"", "x", "x^", "xx"}},
		{plain, "x*^y", []string{"y"}, []string{"xy"}},
		{plain, "a{2}", []string{"aa"}, []string{"a"}},
		{plain, "[a-]", []string{"-"}, nil},
		{plain, "[-a]", []string{"-"}, nil},
		{plain, "[+--]", []string{"-"}, nil},
		{plain, "[a\\]]", []string{"]"}, nil},
	})
	wantMatchError(t, plain, "a", "a\n", api.ErrText)
	wantMatchError(t, api.Options{Max: -1}, "a", "a\n", api.ErrOptions)
}

func TestMatchSomewhere(t *testing.T) {
	wantLines(t, []lines{
		{plain, "ab", []string{"ab", "xab", "abx", "aab", "abab"}, []string{"", "a", "b", "ba", "axb"}},
		{plain, "a|bc", []string{"xa", "bc", "bbc"}, []string{"b", "c", "cb"}},
		{plain, "aab", []string{"aaab", "aaaaab"}, []string{"abab"}},
		{plain, "ab|bcd", []string{"abc", "bcd", "xbcd"}, []string{"bc", "acd"}},
		{plain, "(a|b)(c|d)", []string{"xbdx", "ac"}, []string{"ab", "ca"}},
	})
}

func TestMatchEmpty(t *testing.T) {
	wantLines(t, []lines{
		{plain, "", []string{"", "a"}, nil},
		{plain, "()", []string{"", "a"}, nil},
		{plain, "a|", []string{"", "b"}, nil},
		{plain, "b*", []string{"", "a"}, nil},
		{plain, "a", nil, []string{""}},
		{plain, ".", []string{"a"}, []string{""}},
		{whole, "", []string{""}, []string{"a"}},
		{whole, "|a", []string{"", "a"}, []string{"b", "aa"}},
		{whole, "a()b", []string{"ab"}, []string{"a", "b", ""}},
		{whole, "a(|b)c", []string{"ac", "abc"}, []string{"a", "abbc"}},
		{whole, "(|)(|)", []string{""}, []string{"a"}},
	})
}

func TestMatchWhole(t *testing.T) {
	wantLines(t, []lines{
		{whole, "ab", []string{"ab"}, []string{"", "a", "xab", "abx", "abab"}},
		{whole, "a|ab", []string{"a", "ab"}, []string{"b", "aab", "aba"}},
		{whole, "(a|ab)(c|bcd)", []string{"ac", "abc", "abcd", "abbcd"}, []string{"ab", "abcdd"}},
		{whole, "^a$", []string{"a"}, []string{"", "aa"}},
		{whole, ".*b", []string{"b", "ab", "bbb"}, []string{"", "ba"}},
	})
}

func TestMatchBytes(t *testing.T) {
	wantLines(t, []lines{
		{whole, ".", []string{"a", "\x00", "\xff", "."}, []string{"", "ab", "\u00e9"}},
		{whole, "\\.\\n\\\\", []string{".n\\"}, []string{"an\\", ".\\\\"}},
		{whole, "]}-,", []string{"]}-,"}, []string{"]}"}},
		{whole, "\x00\x80\xff", []string{"\x00\x80\xff"}, []string{"\x00\x80\xfe"}},
		{whole, "\\^\\$\\.", []string{"^$."}, []string{"", "^$a"}},
		{plain, "\n", nil, []string{"", "n", "\\n"}},
	})
}

func TestMatchEveryByteAlone(t *testing.T) {
	for c := 0; c < 256; c++ {
		for d := 0; d < 256; d++ {
			if d == api.Newline {
				continue
			}
			line := string([]byte{byte(d)})
			wantSelected(t, plain, "\\"+string([]byte{byte(c)}), line, c == d)
			wantSelected(t, fold, "\\"+string([]byte{byte(c)}), line, alike(c, d))
		}
	}
}

func alike(c int, d int) bool {
	for letter := 0; letter < 26; letter++ {
		if (c == 'A'+letter && d == 'a'+letter) || (c == 'a'+letter && d == 'A'+letter) {
			return true
		}
	}
	return c == d
}

func TestMatchBeginAndEnd(t *testing.T) {
	wantLines(t, []lines{
		{plain, "^a", []string{"a", "ab"}, []string{"", "ba"}},
		{plain, "a$", []string{"a", "ba"}, []string{"", "ab"}},
		{plain, "^", []string{"", "a"}, nil},
		{plain, "$", []string{"", "a"}, nil},
		{plain, "a^b", nil, []string{"ab", "a^b", "b"}},
		{plain, "a$b", nil, []string{"ab", "a$b", "a"}},
		{plain, "a?^b", []string{"b", "bc"}, []string{"ab", "cb"}},
		{plain, "a$b?", []string{"a", "ca"}, []string{"ab", "b"}},
		{plain, "(^|x)a", []string{"a", "bxa"}, []string{"ba"}},
		{plain, "a($|x)", []string{"ba", "axb"}, []string{"ab"}},
		{plain, "(^a)*b", []string{"ab", "b", "cb", "aab"}, []string{"a"}},
		{whole, "(^a)*b", []string{"ab", "b"}, []string{"aab"}},
		{whole, "(a$)*", []string{"", "a"}, []string{"aa"}},
		{plain, "^^a$$", []string{"a"}, []string{"aa", ""}},
		{plain, "^{3}a${2}", []string{"a"}, []string{"ab", "ba"}},
		{plain, "(^)*a", []string{"a", "ba"}, []string{"b"}},
		{plain, "(^)+a", []string{"a"}, []string{"ba"}},
		{plain, "$^", []string{""}, []string{"a", "aa"}},
		{plain, "$^$^", []string{""}, []string{"a"}},
		{whole, "($|^)+", []string{""}, []string{"a"}},
		{plain, "^*a", []string{"ba"}, nil},
		{plain, "a^*b$*c", []string{"abc"}, []string{"ab"}},
	})
}

func TestMatchLists(t *testing.T) {
	wantLines(t, []lines{
		{whole, "[b-d]", []string{"b", "c", "d"}, []string{"a", "e", "-", ""}},
		{whole, "[^b-d]", []string{"a", "e", "-", "\x00", "\xff"}, []string{"b", "c", "d", ""}},
		{whole, "[a-]", []string{"a", "-"}, []string{"b", ","}},
		{whole, "[-a]", []string{"a", "-"}, []string{"b", "."}},
		{whole, "[^-a]", []string{"b", "^"}, []string{"a", "-"}},
		{whole, "[--]", []string{"-"}, []string{",", "."}},
		{whole, "[--/]", []string{"-", ".", "/"}, []string{",", "0"}},
		{whole, "[a-c-e]", []string{"a", "b", "c", "-", "e"}, []string{"d"}},
		{whole, "[a-c-]", []string{"b", "-"}, []string{"d"}},
		{whole, "[a\\-c]", []string{"a", "-", "c"}, []string{"b", "\\"}},
		{whole, "[^^]", []string{"a", "["}, []string{"^"}},
		{whole, "[a^]", []string{"a", "^"}, []string{"b"}},
		{whole, "[\\^a]", []string{"a", "^"}, []string{"b", "\\"}},
		{whole, "[^^-a]", []string{"]", "b"}, []string{"^", "_", "`", "a"}},
		{whole, "[a]]", []string{"a]"}, []string{"a", "]", "]]"}},
		{whole, "[^\\]]", []string{"a", "\\"}, []string{"]"}},
		{whole, "[Z-\\]]", []string{"Z", "[", "\\", "]"}, []string{"Y", "^"}},
		{whole, "[(|*+?.{$[]", []string{"(", "|", "*", "+", "?", ".", "{", "$", "["}, []string{"a", "]", "}"}},
		{whole, "[\x00-\x7f]", []string{"\x00", "a", "\x7f"}, []string{"\x80"}},
		{whole, "[\x7f-\xff]", []string{"\x7f", "\x80", "\xff"}, []string{"~"}},
	})
}

func TestMatchFold(t *testing.T) {
	wholeFold := api.Options{Fold: true, Whole: true}
	wantLines(t, []lines{
		{wholeFold, "aZ", []string{"az", "AZ", "Az", "aZ"}, []string{"a", "zA"}},
		{wholeFold, "\\aM", []string{"AM", "am"}, []string{"aa"}},
		{wholeFold, "@[[]`{1}", []string{"@[`"}, []string{"`[@", "@{`"}},
		{wholeFold, "\xe4", []string{"\xe4"}, []string{"\xc4"}},
		{wholeFold, "[b-d]", []string{"B", "b", "D", "d"}, []string{"A", "a", "E", "e"}},
		{wholeFold, "[B-D]", []string{"B", "b", "D", "d"}, []string{"A", "a", "E", "e"}},
		{wholeFold, "[^b-d]", []string{"A", "a", "E", "e", "-"}, []string{"B", "b", "D", "d"}},
		{wholeFold, "[^B-D]", []string{"A", "a", "E", "e", "-"}, []string{"B", "b", "D", "d"}},
		{wholeFold, "[Y-b]", []string{"y", "Z", "A", "b", "_"}, []string{"c", "C", "X", "x"}},
		{wholeFold, "[^Y-b]", []string{"c", "X"}, []string{"y", "z", "A", "B", "_"}},
		{wholeFold, "[@-Z]", []string{"@", "a", "z"}, []string{"[", "`"}},
		{wholeFold, ".", []string{"a", "A"}, []string{""}},
		{plain, "a", []string{"a"}, []string{"A"}},
		{plain, "[a-z]", []string{"a"}, []string{"A", "Z"}},
		{plain, "[^a]", []string{"A"}, []string{"a"}},
	})
}

func TestMatchRepeats(t *testing.T) {
	wantLines(t, []lines{
		{whole, "a*", []string{"", "a", "aaaa"}, []string{"b", "ab"}},
		{whole, "a+", []string{"a", "aaaa"}, []string{"", "ab"}},
		{whole, "a?", []string{"", "a"}, []string{"aa"}},
		{whole, "a{0}", []string{""}, []string{"a"}},
		{whole, "xa{0}y", []string{"xy"}, []string{"xay"}},
		{whole, "(a|bc){0}", []string{""}, []string{"a", "bc"}},
		{whole, "a{0,0}b", []string{"b"}, []string{"ab"}},
		{whole, "a{3}", []string{"aaa"}, []string{"aa", "aaaa"}},
		{whole, "a{2,}", []string{"aa", "aaa", "aaaaaaaaaaaa"}, []string{"", "a"}},
		{whole, "a{0,}", []string{"", "a", "aaaaaaaaaaaa"}, []string{"b"}},
		{whole, "a{1,}", []string{"a", "aaaaaaaaaaaa"}, []string{""}},
		{whole, "a{2,4}", []string{"aa", "aaa", "aaaa"}, []string{"a", "aaaaa"}},
		{whole, "a{0,2}", []string{"", "a", "aa"}, []string{"aaa"}},
		{whole, "a{9}", []string{"aaaaaaaaa"}, []string{"aaaaaaaa", "aaaaaaaaaa"}},
		{whole, "ab{2}", []string{"abb"}, []string{"abab"}},
		{whole, "(ab){2}", []string{"abab"}, []string{"abb", "ab"}},
		{whole, "(ab|c){2}", []string{"abab", "abc", "cab", "cc"}, []string{"ab", "ccc"}},
		{whole, "(a|b){2,}c", []string{"abc", "bbabc"}, []string{"ac", "c"}},
		{whole, "[ab]{2}.{2}", []string{"abxy"}, []string{"axab"}},
	})
}

func TestMatchRepeatsOfRepeats(t *testing.T) {
	wantLines(t, []lines{
		{whole, "a{2}{3}", []string{"aaaaaa"}, []string{"aa", "aaa", "aaaaa"}},
		{whole, "a{2}*", []string{"", "aa", "aaaa"}, []string{"a", "aaa"}},
		{whole, "a*{2}", []string{"", "a", "aaaaa"}, []string{"b"}},
		{whole, "a{2}?", []string{"", "aa"}, []string{"a"}},
		{whole, "a?{2}", []string{"", "a", "aa"}, []string{"aaa"}},
		{whole, "a{2,3}{2}", []string{"aaaa", "aaaaa", "aaaaaa"}, []string{"aaa", "aaaaaaa"}},
		{whole, "a{3}+", []string{"aaa", "aaaaaa"}, []string{"", "aaaa"}},
		{whole, "a{0}{9}b", []string{"b"}, []string{"ab"}},
		{whole, "a{9}{0}b", []string{"b"}, []string{"aaaaaaaaab"}},
		{whole, "(a*)*b", []string{"b", "aaab"}, []string{"a", "aba"}},
		{whole, "(a*b*)+c", []string{"c", "abbac"}, []string{"", "ab"}},
		{whole, "(){9}(a?){3}", []string{"", "aaa"}, []string{"aaaa"}},
		{whole, "(a|){3}b", []string{"b", "aaab"}, []string{"aaaab"}},
		{whole, "((a|b){2}c){2}", []string{"abcbac"}, []string{"abcc", "abc"}},
		{whole, "(a{2}|b)*{2}", []string{"", "baab", "aaaa"}, []string{"bab"}},
	})
}

func TestMatchInvert(t *testing.T) {
	wantLines(t, []lines{
		{invert, "a", []string{"", "b"}, []string{"a", "ba"}},
		{invert, "", nil, []string{"", "a"}},
		{api.Options{Invert: true, Whole: true}, "a", []string{"", "ba"}, []string{"a"}},
		{api.Options{Invert: true, Fold: true}, "a", []string{"b"}, []string{"a", "A"}},
	})
}

func TestMatchNumberAndMaxDoNothing(t *testing.T) {
	for _, max := range []int{0, 1, 2, 1<<63 - 1} {
		for _, number := range []bool{false, true} {
			wantSelected(t, api.Options{Number: number, Max: max}, "a", "a", true)
			wantSelected(t, api.Options{Number: number, Max: max}, "a", "b", false)
			wantSelected(t, api.Options{Invert: true, Number: number, Max: max}, "a", "b", true)
		}
	}
}

func TestMatchLargestPattern(t *testing.T) {
	a, b := strings.Repeat("a", 54), strings.Repeat("b", 6)
	wantLines(t, []lines{
		{whole, "a{9}{6}b{6}", []string{a + b}, []string{a + b[1:], a[1:] + b, a + b + "b", "a" + a + b}},
		{plain, "a{9}{6}b{6}", []string{a + b, "xaa" + a + b + "bxx"}, []string{a + b[1:], a[1:] + b, a + "x" + b}},
		{whole, "a{0,9}{6}b{0,6}", []string{"", a, b, a + b, "aab"}, []string{"ba", a + b + "b", "a" + a}},
		{whole, "a{9,}{6}b{5,}b", []string{a + b, a + a + b + b}, []string{a + b[1:], a[1:] + b}},
		{plain, "^{9}{6}^{6}", []string{"", "a"}, nil},
		{plain, "^{9}{5}^{9}a${5}", []string{"a"}, []string{"", "ab", "ba"}},
		{whole, "^{9}{3}${9}{3}^{3}${3}", []string{""}, []string{"a"}},
		{plain, "(a{9}{6}b{5}$){1}", []string{a + b[1:], "b" + a + b[1:]}, []string{a + b, a[1:] + b[1:]}},
	})
	forty := strings.Repeat("|", 30) + "abcdefghij"
	wantSelected(t, whole, forty, "abcdefghij", true)
	wantSelected(t, whole, forty, "abcdefghi", false)
}

func TestMatchLongestLine(t *testing.T) {
	line := strings.Repeat("a", api.MaxText-1)
	wantLines(t, []lines{
		{plain, "a", []string{line + "b"}, nil},
		{plain, "b", []string{line + "b", "b" + line, line[:300] + "b" + line[300:]}, []string{line + "a"}},
		{plain, "^b", []string{"b" + line}, []string{line + "b"}},
		{plain, "b$", []string{line + "b"}, []string{"b" + line}},
		{whole, "(a|b)*", []string{line + "b"}, []string{line + "c"}},
		{whole, "(aa)*", []string{line + "a"}, []string{line}},
		{whole, "((((((((a+)+)+)+)+)+)+)+)+b", []string{line + "b"}, []string{line + "a", line + "c"}},
		{plain, "(a?){9}{6}b", []string{line + "b"}, []string{line + "a"}},
		{plain, "(a|aa|aaa)*(a*)*(a*b)*c", nil, []string{line + "a"}},
	})
	for _, o := range []api.Options{plain, fold, whole, invert} {
		wantMatchError(t, o, "a", line+"aa", api.ErrText)
	}
	wantMatchError(t, plain, "a", line+"\n", api.ErrText)
}

func TestMatchWhatIsNoLine(t *testing.T) {
	for _, line := range []string{"\n", "a\n", "\na", "a\na", strings.Repeat("a", api.MaxText+1), strings.Repeat("\n", api.MaxText+1)} {
		for _, o := range []api.Options{plain, fold, whole, invert, {Number: true, Max: 1}} {
			wantMatchError(t, o, "a", line, api.ErrText)
			wantMatchError(t, o, "", line, api.ErrText)
			wantMatchError(t, o, "\n", line, api.ErrText)
		}
	}
}

func TestMatchWhichErrorIsTold(t *testing.T) {
	long := strings.Repeat("a", api.MaxPattern+1)
	for _, max := range []int{-1, -2, -1 << 63} {
		bad := api.Options{Max: max}
		for _, pattern := range []string{"a", "(", "a{9}{9}", long} {
			wantMatchError(t, bad, pattern, "a", api.ErrOptions)
			wantMatchError(t, bad, pattern, "\n", api.ErrOptions)
		}
	}
	for _, line := range []string{"a", "\n", strings.Repeat("a", api.MaxText+1)} {
		for _, o := range []api.Options{plain, invert} {
			wantMatchError(t, o, "(", line, api.ErrPattern)
			wantMatchError(t, o, "a{9}{9}(", line, api.ErrPattern)
			wantMatchError(t, o, "a{9}{9}", line, api.ErrSize)
			wantMatchError(t, o, long, line, api.ErrSize)
			wantMatchError(t, o, long+"(", line, api.ErrSize)
		}
	}
}
