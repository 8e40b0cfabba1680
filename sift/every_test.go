package sift_test

import (
	"strings"
	"testing"

	"sift/api"
	"sift/sift"
)

// oddStrings are of all kinds and lengths: none of them may end a call otherwise
// than with an answer.
func oddStrings() []string {
	odd := []string{"", "SG", "SZ", "SG\x00\x00\x00", "SZ\x09", "SG\xff\xff\xff\xff", "SZ\xff\xff\xff\xff"}
	odd = append(odd, oddFiles()...)
	for c := 0; c < 256; c++ {
		odd = append(odd, string([]byte{byte(c)}))
		odd = append(odd, strings.Repeat(string([]byte{byte(c)}), 39))
	}
	for _, s := range []string{"a", "(", ")", "()", "[", "\\", "|", "{9}", "a{9}", "\n", "\xff", "(a*)*"} {
		odd = append(odd, strings.Repeat(s, 13), strings.Repeat(s, 1000), strings.Repeat(s, 3000000))
	}
	return odd
}

// oddFiles begin as files do.
func oddFiles() []string {
	odd := []string{rulesFile(doubled('a', 'b', 100), r0+99), rulesFile(doubled('a', 'b', 100), r0+39)}
	for _, begin := range []string{"SG\x00", "SG\x64", "SG\x00\xe8\x03", "SZ\x09", "SZ\x0c"} {
		for _, c := range []string{"\x00", "\x01", "a", "\xff", "\x00\x01", "\x01\x02\x04\x08"} {
			odd = append(odd, begin+strings.Repeat(c, 300), begin+strings.Repeat(c, 999), begin+strings.Repeat(c, 3000000))
		}
	}
	return odd
}

var oddNumbers = []int{-1 << 63, -1 << 31, -257, -1, 0, 1, 9, 12, 13, 64, 2001, 1 << 31, 1 << 40, 1<<63 - 1}

func TestEveryCallEnds(t *testing.T) {
	for _, s := range oddStrings() {
		for _, o := range []api.Options{plain, {Invert: true, Fold: true, Whole: true, Number: true, Max: 1}} {
			sift.Match(o, s, s)
			sift.Match(o, s, "a")
			sift.Match(o, "a*", s)
			sift.Count(o, s, s)
			sift.Count(o, "a*", s)
			sift.Grep(o, s, s)
			sift.Grep(o, "a*", s)
		}
		sift.Check(s)
		sift.Shape(s)
		sift.PackG(s)
		for _, n := range oddNumbers {
			sift.Cut(s, n, n)
			sift.Cut(s, 0, n)
			sift.Cut(s, n, 0)
			sift.PackZ(s, n)
		}
	}
	for _, n := range oddNumbers {
		o := api.Options{Max: n}
		sift.Match(o, "a", "a")
		sift.Count(o, "a", "SZ\x09")
		sift.Grep(o, "a", "SZ\x09")
	}
}

// Every string of three bytes that mean something in a pattern, and many lines:
// beside an error there is nothing, and an answer once given is given again.
func TestEveryAnswerDependsOnItsArgumentsAlone(t *testing.T) {
	first := shortAnswers()
	for i, again := range shortAnswers() {
		if again != first[i] {
			t.Fatalf("P1: answer %d is %+v, and the second time %+v", i, first[i], again)
		}
	}
	for _, a := range first {
		if a.sizeErrno != api.OK && a.size != 0 {
			t.Errorf("P1: Check(%q) = %d beside %d", a.pattern, a.size, a.sizeErrno)
		}
		if a.errno != api.OK && a.selected {
			t.Errorf("P1: Match(%q, %q) = true beside %d", a.pattern, a.line, a.errno)
		}
		if a.line == "a" && a.errno != a.sizeErrno {
			t.Errorf("P3: Match(%q, %q) tells %d, Check %d", a.pattern, a.line, a.errno, a.sizeErrno)
		}
	}
}

func TestEveryAnswerOfFilesDependsOnItsArgumentsAlone(t *testing.T) {
	type told struct {
		info      api.Info
		infoErrno api.Errno
		text      string
		textErrno api.Errno
	}
	var first []told
	for round := range 2 {
		d := dice{state: 4}
		for i := range 2000 {
			files := []string{d.rulesFile(), d.codesFile()}
			var a told
			a.info, a.infoErrno = sift.Shape(files[i%2])
			a.text, a.textErrno = sift.Cut(files[i%2], 0, d.below(50))
			if round == 0 {
				first = append(first, a)
			} else if a != first[i] {
				t.Fatalf("P1: answer %d is %+v, and the second time %+v", i, first[i], a)
			}
			if (a.infoErrno != api.OK && a.info != api.Info{}) || (a.textErrno != api.OK && a.text != "") {
				t.Errorf("P1: beside an error: %+v", a)
			}
		}
	}
}

func TestEveryPackedFileDependsOnItsArgumentsAlone(t *testing.T) {
	var first []string
	for round := range 2 {
		d := dice{state: 8}
		for i := range 500 {
			text := d.text()
			codes, codesErrno := sift.PackZ(text, 8+i%6)
			rules, rulesErrno := sift.PackG(text)
			if codesErrno != api.OK && codes != "" || rulesErrno != api.OK {
				t.Errorf("P1: packed files %.60q, %d, %.60q, %d", codes, codesErrno, rules, rulesErrno)
			}
			if round == 0 {
				first = append(first, codes+rules)
			} else if codes+rules != first[i] {
				t.Fatalf("P1: packed files %d are %.60q, and the first time %.60q", i, codes+rules, first[i])
			}
		}
	}
}

func TestEveryAnswerOfLinesDependsOnItsArgumentsAlone(t *testing.T) {
	type told struct {
		count      int
		countErrno api.Errno
		out        string
		outErrno   api.Errno
	}
	var first []told
	for round := range 2 {
		d := dice{state: 15}
		for i := range 2000 {
			file := []string{d.rulesFile(), d.codesFile()}[i%2]
			o, pattern := d.allOptions(), somePatterns[d.below(len(somePatterns))]
			o.Max -= d.below(9) / 8
			var a told
			a.count, a.countErrno = sift.Count(o, pattern, file)
			a.out, a.outErrno = sift.Grep(o, pattern, file)
			if round == 0 {
				first = append(first, a)
			} else if a != first[i] {
				t.Fatalf("P1: answer %d is %+v, and the first time %+v", i, a, first[i])
			}
			if (a.countErrno != api.OK && a.count != 0) || (a.outErrno != api.OK && a.out != "") {
				t.Errorf("P1: beside an error: %+v", a)
			}
			if a.countErrno != a.outErrno && (a.countErrno != api.OK || a.outErrno != api.ErrOut) {
				t.Errorf("P9: Grep tells %d, Count %d", a.outErrno, a.countErrno)
			}
		}
	}
}

type answer struct {
	pattern   string
	line      string
	size      int
	sizeErrno api.Errno
	selected  bool
	errno     api.Errno
}

func shortAnswers() []answer {
	var answers []answer
	for _, pattern := range wordsOf("a()[]|*{9}\\^$-", 3) {
		for _, line := range []string{"a", "\n"} {
			a := answer{pattern: pattern, line: line}
			a.size, a.sizeErrno = sift.Check(pattern)
			a.selected, a.errno = sift.Match(invert, pattern, line)
			answers = append(answers, a)
		}
	}
	return answers
}

// wordsOf tells all strings of at most so many bytes out of some.
func wordsOf(bytes string, most int) []string {
	words := []string{""}
	from := 0
	for length := 1; length <= most; length++ {
		to := len(words)
		for _, w := range words[from:to] {
			for i := 0; i < len(bytes); i++ {
				words = append(words, w+bytes[i:i+1])
			}
		}
		from = to
	}
	return words
}
