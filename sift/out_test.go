package sift_test

import (
	"fmt"
	"strings"
	"testing"

	"sift/api"
)

// times tells symbols that stand for a byte so many times, with the rules of
// doubled: rule k is the byte 2 to the k + 1 times.
func times(symbol int, count int) []int {
	var symbols []int
	for k := 40; k >= 0; k-- {
		switch {
		case count>>k&1 == 0:
		case k == 0:
			symbols = append(symbols, symbol)
		default:
			symbols = append(symbols, r0+k-1)
		}
	}
	return symbols
}

// linesFile is a file of lines of one byte alone, as long as said.
func linesFile(ended bool, lengths ...int) string {
	var start []int
	for i, length := range lengths {
		start = append(start, times('a', length)...)
		if ended || i+1 < len(lengths) {
			start = append(start, '\n')
		}
	}
	return rulesFile(doubled('a', 'a', 40), start...)
}

// wantOut wants lines of so many bytes, where there are none selected but these.
func wantOut(t *testing.T, o api.Options, pattern string, file string, lengths ...int) {
	t.Helper()
	out := ""
	for _, length := range lengths {
		out += strings.Repeat("a", length) + "\n"
	}
	wantCount(t, o, pattern, file, len(lengths))
	wantGrep(t, o, pattern, file, out)
}

func TestGrepOfOneLongLine(t *testing.T) {
	for _, ended := range []bool{false, true} {
		for _, o := range []api.Options{plain, fold, {Max: 1}, {Max: 2}} {
			wantOut(t, o, "a", linesFile(ended, 1998), 1998)
			wantOut(t, o, "a", linesFile(ended, 1999), 1999)
			wantOut(t, o, "a", linesFile(ended, 0, 1999), 1999)
			for _, length := range []int{2000, 2001, 4000, 1 << 31, 1<<32 + 7, 1<<40 - 2} {
				wantNoGrep(t, o, "a", linesFile(ended, length), api.ErrOut)
				wantNoGrep(t, o, "a", linesFile(ended, 0, length), api.ErrOut)
				wantCount(t, o, "a", linesFile(ended, 0, length), 1)
			}
		}
		wantOut(t, invert, "b", linesFile(ended, 1999), 1999)
		wantNoGrep(t, invert, "b", linesFile(ended, 2000), api.ErrOut)
		wantGrep(t, number, "", linesFile(ended, 1997), "1:"+strings.Repeat("a", 1997)+"\n")
		wantNoGrep(t, number, "", linesFile(ended, 1998), api.ErrOut)
		wantGrep(t, number, "a", linesFile(ended, 0, 1997), "2:"+strings.Repeat("a", 1997)+"\n")
		wantNoGrep(t, number, "a", linesFile(ended, 0, 1998), api.ErrOut)
	}
}

func TestGrepOfManyBytes(t *testing.T) {
	wantOut(t, plain, "", linesFile(true, 999, 999), 999, 999)
	wantOut(t, plain, "", linesFile(false, 999, 999), 999, 999)
	wantNoGrep(t, plain, "", linesFile(true, 1000, 999), api.ErrOut)
	wantNoGrep(t, plain, "", linesFile(false, 999, 1000), api.ErrOut)
	wantOut(t, plain, "", linesFile(false, 1998, 0, 0), 1998, 0)
	wantNoGrep(t, plain, "", linesFile(true, 1998, 0, 0), api.ErrOut)
	wantNoGrep(t, plain, "", linesFile(true, 0, 0, 1998), api.ErrOut)
	wantOut(t, plain, "", linesFile(true, 0, 0, 1997), 0, 0, 1997)
	wantOut(t, plain, "", linesFile(true, 500, 0, 1, 1495), 500, 0, 1, 1495)
	wantNoGrep(t, plain, "", linesFile(true, 500, 0, 1, 1496), api.ErrOut)
}

func TestGrepOfManyLines(t *testing.T) {
	for _, count := range []int{1999, 2000, 2001, 2002, 3000} {
		rules := doubled('\n', '\n', 40)
		file := rulesFile(rules, times('\n', count)...)
		far := rulesFile(rules, r0+38)
		wantCount(t, plain, "", file, count)
		wantCount(t, api.Options{Max: count}, "", far, count)
		for _, o := range []api.Options{plain, {Max: count}} {
			if count > api.MaxOut {
				wantNoGrep(t, o, "", file, api.ErrOut)
				wantNoGrep(t, api.Options{Max: count, Invert: true}, "a", far, api.ErrOut)
				continue
			}
			wantOut(t, o, "", file, repeated(0, count)...)
			wantOut(t, api.Options{Max: count, Invert: true}, "a", far, repeated(0, count)...)
		}
	}
}

// 9 lines of 3 bytes, 90 of 4 and 321 of 5 are 1992.
func TestGrepOfNumbers(t *testing.T) {
	want := ""
	for i := range 420 {
		want += fmt.Sprintf("%d:\n", i+1)
	}
	if len(want) != 1992 {
		t.Fatalf("%d bytes", len(want))
	}
	for _, ended := range []bool{false, true} {
		lengths := append(repeated(0, 420), 3)
		wantGrep(t, number, "", linesFile(ended, lengths...), want+"421:aaa\n")
		wantGrep(t, api.Options{Number: true, Invert: true}, "b", linesFile(ended, lengths...), want+"421:aaa\n")
		wantGrep(t, number, "^$", linesFile(ended, lengths...), want)
		lengths[420] = 4
		wantNoGrep(t, number, "", linesFile(ended, lengths...), api.ErrOut)
		wantGrep(t, api.Options{Number: true, Max: 420}, "", linesFile(ended, lengths...), want)
		wantGrep(t, plain, "", linesFile(ended, lengths...), strings.Repeat("\n", 420)+"aaaa\n")
	}
}

// What is not selected, or behind the last line that counts, is not printed.
func TestGrepOfWhatIsNotPrinted(t *testing.T) {
	for _, ended := range []bool{false, true} {
		file := linesFile(ended, 3, 1<<38, 4, 2000, 5, 1<<37)
		wantOut(t, api.Options{Whole: true}, "a{3,5}", file, 3, 4, 5)
		wantOut(t, api.Options{Max: 1}, "", file, 3)
		wantNoGrep(t, api.Options{Max: 2}, "", file, api.ErrOut)
		wantOut(t, api.Options{Max: 2, Whole: true}, "a{3,5}", file, 3, 4)
		wantOut(t, api.Options{Invert: true}, "a{6}", file, 3, 4, 5)
		wantOut(t, api.Options{Invert: true, Max: 3}, "a{6}", file, 3, 4, 5)
		wantNoGrep(t, plain, "a{6}", file, api.ErrOut)
		wantCount(t, plain, "a{6}", file, 3)
		wantOut(t, plain, "b", file)
	}
	file := linesFile(true, 1999, 1999, 1)
	wantOut(t, api.Options{Max: 1}, "", file, 1999)
	wantNoGrep(t, api.Options{Max: 2}, "", file, api.ErrOut)
	wantNoGrep(t, plain, "", file, api.ErrOut)
}
