package sift_test

import (
	"testing"

	"sift/api"
	"sift/sift"
)

// A rule of two symbols, as a test writes it down.
type rule [2]int

func two(n int) []byte {
	return []byte{byte(n), byte(n >> 8)}
}

// rulesFile writes a file SG, whether what it says is right or not.
func rulesFile(rules []rule, start ...int) string {
	file := []byte{'S', 'G', byte(len(rules))}
	for _, r := range rules {
		file = append(append(file, two(r[0])...), two(r[1])...)
	}
	file = append(file, two(len(start))...)
	for _, symbol := range start {
		file = append(file, two(symbol)...)
	}
	return string(file)
}

// doubled is a first rule, and behind it rules that are the one ahead, twice.
func doubled(left int, right int, count int) []rule {
	rules := []rule{{left, right}}
	for len(rules) < count {
		ahead := api.Rule + len(rules) - 1
		rules = append(rules, rule{ahead, ahead})
	}
	return rules
}

// A codeWriter writes codes with the widths with which they are read.
type codeWriter struct {
	bytes []byte
	used  int
	most  int
	free  int
	ahead bool
}

func newCodeWriter(width int) *codeWriter {
	return &codeWriter{most: width, free: api.First}
}

func (w *codeWriter) width() int {
	width := 9
	for 1<<width <= w.free {
		width++
	}
	return min(width, w.most)
}

func (w *codeWriter) write(code int) {
	for i := range w.width() {
		if w.used%8 == 0 {
			w.bytes = append(w.bytes, 0)
		}
		w.bytes[w.used/8] |= byte(code >> i & 1 << (w.used % 8))
		w.used++
	}
	switch {
	case code == api.Clear:
		w.free = api.First
	case w.ahead && w.free < 1<<w.most:
		w.free++
	}
	w.ahead = code != api.Clear
}

func (w *codeWriter) file() string {
	return "SZ" + string([]byte{byte(w.most)}) + string(w.bytes)
}

func codesFile(width int, codes ...int) string {
	w := newCodeWriter(width)
	for _, code := range codes {
		w.write(code)
	}
	return w.file()
}

func wantShape(t *testing.T, what string, file string, want api.Info) {
	t.Helper()
	got, e := sift.Shape(file)
	if got != want || e != api.OK {
		t.Errorf("P4: %s: Shape(%.60q) = %+v, %d, want %+v, 0", what, file, got, e, want)
	}
}

func wantNoShape(t *testing.T, what string, file string, want api.Errno) {
	t.Helper()
	got, e := sift.Shape(file)
	if got != (api.Info{}) || e != want {
		t.Errorf("P4: %s: Shape(%.60q) = %+v, %d, want nothing, %d", what, file, got, e, want)
	}
	for _, place := range []int{0, 1, -1} {
		wantNoCut(t, file, place, 0, want)
	}
}

func wantCut(t *testing.T, file string, from int, to int, want string) {
	t.Helper()
	got, e := sift.Cut(file, from, to)
	if got != want || e != api.OK {
		t.Errorf("P5: Cut(%.60q, %d, %d) = %.60q, %d, want %.60q, 0", file, from, to, got, e, want)
	}
}

func wantNoCut(t *testing.T, file string, from int, to int, want api.Errno) {
	t.Helper()
	got, e := sift.Cut(file, from, to)
	if got != "" || e != want {
		t.Errorf("P5: Cut(%.60q, %d, %d) = %.60q, %d, want nothing, %d", file, from, to, got, e, want)
	}
}

func wantText(t *testing.T, what string, file string, text string, symbols int, lines int) {
	t.Helper()
	wantShape(t, what, file, api.Info{Kind: int(file[1]), Symbols: symbols, Length: len(text), Lines: lines})
	for from := 0; from < len(text); from += api.MaxOut {
		to := min(from+api.MaxOut, len(text))
		wantCut(t, file, from, to, text[from:to])
	}
	wantCut(t, file, len(text), len(text), "")
	wantNoCut(t, file, len(text), len(text)+1, api.ErrRange)
}
