package sift_test

import (
	"strings"
	"testing"

	"sift/api"
)

func TestShapeOfNoKind(t *testing.T) {
	for _, file := range []string{
		"", "S", "G", "SG", "SZ", "SA\x00\x00\x00", "sg\x00\x00\x00", "sz\x09", "Sg\x00\x00\x00", "Sz\x09", "GS\x00\x00\x00", "ZS\x09",
		"\x00SG\x00\x00\x00", " SZ\x09", "\x00\x00\x00\x00\x00", "XG\x00\x00\x00", "XZ\x09",
	} {
		wantNoShape(t, "no kind", file, api.ErrFile)
	}
	for c := range 256 {
		kind := string([]byte{byte(c)})
		if c != 'G' {
			wantNoShape(t, "no kind", "S"+kind+"\x00\x00\x00", api.ErrFile)
		}
		if c != 'Z' {
			wantNoShape(t, "no kind", "S"+kind+"\x09", api.ErrFile)
		}
	}
}

// With codes of 9 bits alone 4000 bytes would leave eight bits over.
func TestShapeLengthOfFile(t *testing.T) {
	zeros := strings.Repeat("\x00", 4000)
	wantNoShape(t, "4000 bytes of codes of 9 bits", "SZ\x09"+zeros[:3997], api.ErrFile)
	for width := 10; width <= api.MaxWidth; width++ {
		w := newCodeWriter(width)
		count := 0
		for w.used+w.width() <= 8*(api.MaxFile-3) {
			w.write(0)
			count++
		}
		file := w.file()
		if len(file) != api.MaxFile {
			t.Fatalf("width %d: a file of %d bytes", width, len(file))
		}
		wantText(t, "4000 bytes", file, zeros[:count], count, 1)
		for more := 1; more < 4; more++ {
			wantNoShape(t, "more than 4000 bytes", file+zeros[:more], api.ErrFile)
		}
	}
	wantNoShape(t, "much more", "SZ\x09"+strings.Repeat(zeros, 2000), api.ErrFile)
	wantNoShape(t, "much more", "SG\x00\x00\x00"+strings.Repeat(zeros, 2000), api.ErrFile)
}

func TestShapeSymbols(t *testing.T) {
	wantShape(t, "symbols, not bytes", rulesFile(doubled('a', 'b', 9), r0+8, r0+8, 'c'), api.Info{Kind: 'G', Symbols: 3, Length: 1025, Lines: 1})
	wantShape(t, "codes, not bytes", codesFile(9, 'a', 'b', 257, 259), api.Info{Kind: 'Z', Symbols: 4, Length: 7, Lines: 1})
	wantShape(t, "CLEAR with them", codesFile(9, 256, 'a', 256, 256, '\n', 256), api.Info{Kind: 'Z', Symbols: 6, Length: 2, Lines: 1})
	wantShape(t, "CLEAR alone", codesFile(9, 256, 256, 256), api.Info{Kind: 'Z', Symbols: 3})
}
