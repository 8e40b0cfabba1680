package sift_test

import (
	"strings"
	"testing"
	"time"

	"sift/api"
	"sift/sift"
)

// wantAtOnce gives up a call that goes along a text that is too long for that.
func wantAtOnce(t *testing.T, what string, call func()) {
	t.Helper()
	done := make(chan bool, 1)
	go func() {
		call()
		done <- true
	}()
	select {
	case <-done:
	case <-time.After(10 * time.Second):
		t.Fatalf("%s: no answer", what)
	}
}

// wantFar wants what both calls answer; out is "ErrOut" where it is too much.
func wantFar(t *testing.T, o api.Options, pattern string, file string, count int, out string) {
	t.Helper()
	wantAtOnce(t, "P8", func() { wantCount(t, o, pattern, file, count) })
	wantAtOnce(t, "P9", func() {
		if out == "ErrOut" {
			wantNoGrep(t, o, pattern, file, api.ErrOut)
		} else {
			wantGrep(t, o, pattern, file, out)
		}
	})
}

func wantLength(t *testing.T, file string, want int) {
	t.Helper()
	info, e := sift.Shape(file)
	if info.Length != want || e != api.OK {
		t.Fatalf("a text of %d bytes, %d, want %d", info.Length, e, want)
	}
}

func TestFarExample(t *testing.T) {
	file := rulesFile(doubled('a', '\n', 40), r0+39)
	wantLength(t, file, api.MaxLength)
	wantFar(t, plain, "a", file, 549755813888, "ErrOut")
	wantFar(t, plain, "b", file, 0, "")
	wantFar(t, api.Options{Max: 2}, "a", file, 2, "a\na\n")
	for _, o := range []api.Options{plain, invert, {Max: 2}} {
		wantNoLines(t, o, "a", rulesFile(doubled('a', '\n', 40), r0+39, r0+39), api.ErrBig)
	}
}

func TestFarLinesThatAreAlike(t *testing.T) {
	file := rulesFile(doubled('a', '\n', 40), r0+39)
	wantFar(t, number, "a", file, 1<<39, "ErrOut")
	wantFar(t, invert, "a", file, 0, "")
	wantFar(t, invert, "b", file, 1<<39, "ErrOut")
	wantFar(t, fold, "A", file, 1<<39, "ErrOut")
	wantFar(t, plain, "A", file, 0, "")
	wantFar(t, whole, "a", file, 1<<39, "ErrOut")
	wantFar(t, whole, "aa", file, 0, "")
	wantFar(t, plain, "^$", file, 0, "")
	wantFar(t, api.Options{Invert: true, Number: true, Max: 3}, "b", file, 3, "1:a\n2:a\n3:a\n")
	wantFar(t, api.Options{Max: 1000}, "", file, 1000, strings.Repeat("a\n", 1000))
	wantFar(t, api.Options{Max: 1001}, "", file, 1001, "ErrOut")
	wantFar(t, api.Options{Max: 1<<39 - 1}, "", file, 1<<39-1, "ErrOut")
	wantFar(t, api.Options{Max: 1<<39 + 1}, "", file, 1<<39, "ErrOut")
	wantFar(t, api.Options{Max: 1<<63 - 1}, "", file, 1<<39, "ErrOut")
	wantFar(t, api.Options{Max: 1<<63 - 1}, "b", file, 0, "")
}

func TestFarEmptyLines(t *testing.T) {
	file := rulesFile(doubled('\n', '\n', 40), r0+39)
	wantLength(t, file, api.MaxLength)
	for _, pattern := range []string{"", "^$", "$^", "a*"} {
		wantFar(t, plain, pattern, file, 1<<40, "ErrOut")
		wantFar(t, invert, pattern, file, 0, "")
		wantFar(t, api.Options{Number: true, Max: 2}, pattern, file, 2, "1:\n2:\n")
	}
	wantFar(t, invert, ".", file, 1<<40, "ErrOut")
	wantFar(t, plain, ".", file, 0, "")
	wantFar(t, api.Options{Max: 2000}, "", file, 2000, strings.Repeat("\n", 2000))
	wantFar(t, api.Options{Max: 2001}, "", file, 2001, "ErrOut")
}

func TestFarOneLine(t *testing.T) {
	file := rulesFile(doubled('a', 'b', 40), r0+39)
	wantLength(t, file, api.MaxLength)
	for _, pattern := range []string{"", "a", "ba", "^a", "b$", "^(ab)*$", "^(abab)+$"} {
		wantFar(t, plain, pattern, file, 1, "ErrOut")
		wantFar(t, invert, pattern, file, 0, "")
	}
	for _, pattern := range []string{"c", "aa", "^b", "a$", "^$", "^(ababab)+$", "^a.*a$"} {
		wantFar(t, plain, pattern, file, 0, "")
		wantFar(t, invert, pattern, file, 1, "ErrOut")
	}
	wantFar(t, whole, "(abab)*", file, 1, "ErrOut")
	wantFar(t, whole, "(abab)*ab", file, 0, "")
	wantFar(t, whole, "ab(ababab)*", file, 0, "")
	wantFar(t, whole, "abab(ababab)*", file, 1, "ErrOut") // 2 to the 39 less 2 is a multiple of 3
}

// A few lines stand among very many others.
func TestFarLinesAmongOthers(t *testing.T) {
	file := rulesFile(doubled('a', '\n', 39), r0+38, 'x', r0+37, 'y', r0+36, 'z', r0+35, 'b', '\n', '\n', 'c')
	wantFar(t, number, "x", file, 1, "274877906945:xa\n")
	wantFar(t, number, "[xyz]", file, 3, "274877906945:xa\n412316860417:ya\n481036337153:za\n")
	wantFar(t, number, "b", file, 1, "515396075521:b\n")
	wantFar(t, number, "^$", file, 1, "515396075522:\n")
	wantFar(t, number, "c", file, 1, "515396075523:c\n")
	wantFar(t, api.Options{Number: true, Max: 2}, "[xyz]", file, 2, "274877906945:xa\n412316860417:ya\n")
	wantFar(t, api.Options{Number: true, Invert: true}, "^a", file, 6, "274877906945:xa\n412316860417:ya\n481036337153:za\n515396075521:b\n515396075522:\n515396075523:c\n")
	wantFar(t, api.Options{Whole: true, Number: true}, ".a|c", file, 4, "274877906945:xa\n412316860417:ya\n481036337153:za\n515396075523:c\n")
	wantFar(t, plain, "a", file, 1<<38+1<<37+1<<36+1<<35, "ErrOut")
	wantFar(t, api.Options{Max: 1}, "", file, 1, "a\n")
}

// The line is deep in rules of rules, and very many others are ahead of it and
// behind it.
func TestFarLineInsideOfRules(t *testing.T) {
	rules := doubled('a', '\n', 32)
	rules = append(rules, rule{'b', 'c'}, rule{r0 + 32, '\n'})
	before := 0
	for k := 30; k > 10; k-- {
		inside := r0 + len(rules) - 1
		if k%3 == 0 {
			rules = append(rules, rule{inside, r0 + k})
		} else {
			rules = append(rules, rule{r0 + k, inside})
			before += 1 << k
		}
	}
	top := r0 + len(rules) - 1
	line := number
	line.Whole = true
	wantFar(t, line, "bc", rulesFile(rules, top), 1, withNumber(before+1, "bc"))
	wantFar(t, api.Options{Invert: true, Number: true}, "a", rulesFile(rules, top), 1, withNumber(before+1, "bc"))
	wantFar(t, line, "bc|x", rulesFile(rules, r0+31, top, 'x'), 2, withNumber(1<<31+before+1, "bc")+withNumber(1<<31+1<<31-1<<11+2, "x"))
	wantFar(t, line, "a", rulesFile(rules, top), 1<<31-1<<11, "ErrOut")
}

// Of the lines a and b each rule has those of the two rules ahead of it, so that
// they are as many as the numbers of Fibonacci.
func TestFarLinesOfTwoKinds(t *testing.T) {
	rules := []rule{{'b', '\n'}, {'a', '\n'}}
	as, bs := []int{0, 1}, []int{1, 0}
	for k := 2; k < 57; k++ {
		rules = append(rules, rule{r0 + k - 1, r0 + k - 2})
		as = append(as, as[k-1]+as[k-2])
		bs = append(bs, bs[k-1]+bs[k-2])
	}
	for k := range rules {
		file := rulesFile(rules, r0+k)
		wantLength(t, file, 2*(as[k]+bs[k]))
		wantAtOnce(t, "P8", func() {
			wantCount(t, plain, "a", file, as[k])
			wantCount(t, invert, "a", file, bs[k])
			wantCount(t, whole, "a|b", file, as[k]+bs[k])
			wantCount(t, api.Options{Max: 20}, "b", file, min(bs[k], 20))
		})
	}
	wantFar(t, api.Options{Number: true, Max: 4}, "b", rulesFile(rules, r0+56), 4, "2:b\n5:b\n7:b\n10:b\n")
}

// Each rule is a line's end and the next one's beginning.
func TestFarLinesOverTheBordersOfRules(t *testing.T) {
	rules := []rule{{'b', '\n'}, {r0, 'a'}}
	for k := 2; k < 39; k++ {
		rules = append(rules, rule{r0 + k - 1, r0 + k - 1})
	}
	file := rulesFile(rules, 'c', r0+38, 'c', '\n')
	wantLength(t, file, 3<<37+3)
	wantFar(t, whole, "ab", file, 1<<37-1, "ErrOut")
	wantFar(t, plain, "cb", file, 1, "cb\n")
	wantFar(t, number, "c", file, 2, "1:cb\n137438953473:ac\n")
	wantFar(t, number, "^(a|b)$", file, 0, "")
	wantFar(t, api.Options{Invert: true, Number: true}, "^ab$", file, 2, "1:cb\n137438953473:ac\n")
	wantFar(t, api.Options{Number: true, Max: 2}, "b$", file, 2, "1:cb\n2:ab\n")
}

// Patterns of the greatest size, and as many symbols, rules and codes as may be.
func TestFarLargestPatterns(t *testing.T) {
	rules := append(doubled('a', 'b', 38), doubled('a', '\n', 31)...)
	for k := 39; k < len(rules); k++ {
		rules[k] = rule{r0 + k - 1, r0 + k - 1}
	}
	file := rulesFile(append(rules, doubled('x', 'y', 31)...), append(repeated(r0+68, 250), repeated(r0+20, 750)...)...)
	codes := newCodeWriter(api.MaxWidth)
	codes.write('a')
	for len(codes.bytes) < api.MaxFile-5 {
		codes.write(codes.free)
	}
	for _, pattern := range []string{"((.?){9}[a-z]{9}.*){3}z", "(a*){9}{6}z{6}", ".{9}{6}z", "(a|b|ab|ba|.*){8}z", "(.*.*.*.*.*.*z)+"} {
		for _, o := range []api.Options{plain, fold, whole} {
			wantFar(t, o, pattern, file, 0, "")
			wantFar(t, o, pattern, codes.file(), 0, "")
			o.Invert = true
			wantFar(t, o, pattern, file, 250<<30+1, "ErrOut")
			wantFar(t, o, pattern, codes.file(), 1, "ErrOut")
		}
	}
}

// Each line that is to be found ends deep in the table's longest entry.
func TestFarLinesInLongEntries(t *testing.T) {
	w := newCodeWriter(api.MaxWidth)
	w.write('\n')
	w.write('\n')
	entry := api.First
	for range 1000 {
		w.write(entry)
		entry = w.free
		w.write('a')
	}
	for len(w.bytes) < api.MaxFile-6 {
		w.write(entry)
	}
	file := w.file()
	info, _ := sift.Shape(file)
	count, _ := sift.Count(plain, "^$", file)
	if info.Lines < 3000 || count < info.Lines/2 || count > api.MaxOut {
		t.Fatalf("%+v, %d lines that are empty", info, count)
	}
	wantFar(t, plain, "^$", file, count, strings.Repeat("\n", count))
	wantFar(t, whole, "a{3}", file, 1, "aaa\n")
	wantFar(t, number, "^aaa$", file, 1, "9:aaa\n")
}
