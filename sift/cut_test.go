package sift_test

import (
	"strings"
	"testing"

	"sift/api"
	"sift/sift"
)

// wantAllCuts asks for all places there are, and some that there are not.
func wantAllCuts(t *testing.T, file string, text string) {
	t.Helper()
	for from := -2; from <= len(text)+2; from++ {
		for to := -2; to <= len(text)+2; to++ {
			if from < 0 || to < from || to > len(text) {
				wantNoCut(t, file, from, to, api.ErrRange)
			} else {
				wantCut(t, file, from, to, text[from:to])
			}
		}
	}
}

func TestCutAllPlaces(t *testing.T) {
	wantAllCuts(t, rulesFile(nil), "")
	wantAllCuts(t, rulesFile(nil, 'a'), "a")
	wantAllCuts(t, rulesFile(nil, 0, 255, '\n'), "\x00\xff\n")
	wantAllCuts(t, rulesFile([]rule{{'a', '\n'}, {r0, 'c'}, {'d', r0 + 1}, {r0 + 2, r0 + 1}}, 'x', r0+3, r0, 'y'), "xda\nca\nca\ny")
	wantAllCuts(t, rulesFile(doubled('a', 'b', 100), r0+3), strings.Repeat("ab", 8))
	wantAllCuts(t, codesFile(9), "")
	wantAllCuts(t, codesFile(9, api.Clear), "")
	wantAllCuts(t, codesFile(12, '\n'), "\n")
	wantAllCuts(t, codesFile(9, 'a', 257), "aaa")
	wantAllCuts(t, codesFile(10, 'a', 'b', 257, 259, api.Clear, 'x', 257, 'y', 258), "abababaxxxyxxy")
}

func TestCutExample(t *testing.T) {
	wantCut(t, rulesFile(doubled('a', '\n', 40), r0+39), 1099511627773, 1099511627776, "\na\n")
}

func TestCutFarTexts(t *testing.T) {
	const end = api.MaxLength
	same := rulesFile(doubled('a', '\n', 40), r0+39)
	wantCut(t, same, 0, 2000, strings.Repeat("a\n", 1000))
	wantCut(t, same, end-2000, end, strings.Repeat("a\n", 1000))
	wantCut(t, same, end/2-1, end/2+2, "\na\n")
	wantCut(t, same, end, end, "")
	wantCut(t, same, end/2, end/2, "")
	mixed := rulesFile(doubled('a', '\n', 39), r0+38, 'x', r0+37, 'y', r0+36, 'z', r0+35)
	wantCut(t, mixed, 1<<39-3, 1<<39+4, "\na\nxa\na")
	wantCut(t, mixed, 1<<39, 1<<39+1, "x")
	wantCut(t, mixed, 1<<39+1, 1<<39+2, "a")
	wantCut(t, mixed, 3<<38, 3<<38+3, "\nya")
	wantCut(t, mixed, 3<<38+1, 3<<38+2, "y")
	wantCut(t, mixed, 7<<37+2, 7<<37+3, "z")
	wantCut(t, mixed, 7<<37+2-1999, 7<<37+3, "\n"+strings.Repeat("a\n", 999)+"z")
	wantCut(t, mixed, 15<<36, 15<<36+3, "\na\n")
	wantNoCut(t, mixed, 15<<36, 15<<36+4, api.ErrRange)
}

func TestCutOfUnusedRules(t *testing.T) {
	file := rulesFile(doubled('x', 'y', 100), 'a', 'b', r0, 'c')
	wantAllCuts(t, file, "abxyc")
}

func TestCutLongestAnswer(t *testing.T) {
	text := strings.Repeat("abcdefg\n", 500)
	rules := []rule{{'a', 'b'}, {'c', 'd'}, {'e', 'f'}, {'g', '\n'}, {r0, r0 + 1}, {r0 + 2, r0 + 3}, {r0 + 4, r0 + 5}}
	file := rulesFile(rules, repeated(r0+6, 500)...)
	for _, from := range []int{0, 1, 777, 1999, 2000} {
		wantCut(t, file, from, from+api.MaxOut, text[from:from+api.MaxOut])
		wantNoCut(t, file, from, from+api.MaxOut+1, api.ErrRange)
	}
	wantNoCut(t, file, 0, 4000, api.ErrRange)
	wantNoCut(t, file, 2000, 4001, api.ErrRange)
	wantNoCut(t, rulesFile(doubled('a', 'b', 40), r0+39), 0, api.MaxLength, api.ErrRange)
}

func TestCutOfOddNumbers(t *testing.T) {
	files := []string{"SZ\x09", codesFile(9, 'a', 'b', 257), rulesFile(nil, 'a'), rulesFile(doubled('a', 'b', 40), r0+39)}
	for _, file := range files {
		info, _ := sift.Shape(file)
		for _, from := range oddNumbers {
			for _, to := range oddNumbers {
				got, e := sift.Cut(file, from, to)
				inside := from >= 0 && from <= to && to <= info.Length && to-from <= api.MaxOut
				if inside != (e == api.OK) || (inside && len(got) != to-from) {
					t.Errorf("P5: Cut(%.20q, %d, %d) = %.20q, %d", file, from, to, got, e)
				}
				if !inside {
					wantNoCut(t, file, from, to, api.ErrRange)
				}
			}
		}
	}
}

func TestCutWhichErrorIsTold(t *testing.T) {
	big := rulesFile(doubled('a', 'b', 41), r0+40)
	for _, from := range oddNumbers {
		for _, to := range oddNumbers {
			wantNoCut(t, "", from, to, api.ErrFile)
			wantNoCut(t, big+"x", from, to, api.ErrFile)
			wantNoCut(t, big, from, to, api.ErrBig)
		}
	}
}
