package sift_test

import (
	"strings"
	"testing"

	"sift/api"
)

func TestCodesExamples(t *testing.T) {
	wantText(t, "example 6", "SZ\x09", "", 0, 0)
	wantText(t, "example 6", "SZ\x09a\x02\x02", "aaa", 2, 1)
}

func TestCodesTexts(t *testing.T) {
	for width := api.MinWidth; width <= api.MaxWidth; width++ {
		wantText(t, "no code", codesFile(width), "", 0, 0)
		wantText(t, "a byte", codesFile(width, 'a'), "a", 1, 1)
		wantText(t, "all bytes", codesFile(width, 0, 255, 128, 127), "\x00\xff\x80\x7f", 4, 1)
		wantText(t, "an entry", codesFile(width, 'a', 'b', 257), "abab", 3, 1)
		wantText(t, "entries of entries", codesFile(width, 'a', 'b', 257, 'c', 259, 260, 258), "ababcabccaba", 7, 1)
		wantText(t, "the entry that is just coming", codesFile(width, 'a', 257, 258, 259), "aaaaaaaaaa", 4, 1)
		wantText(t, "the entry that is just coming, of two bytes", codesFile(width, 'a', 'b', 257, 259, 260), "abababaabaa", 5, 1)
		wantText(t, "an entry twice", codesFile(width, 'a', 'b', 257, 257, 257), "abababab", 5, 1)
		wantText(t, "two entries alike", codesFile(width, 'a', 'b', 'a', 'b', 257, 259), "abababab", 6, 1)
	}
}

func TestCodesLines(t *testing.T) {
	wantText(t, "a line that has ended", codesFile(9, 'a', '\n'), "a\n", 2, 1)
	wantText(t, "a newline alone", codesFile(9, '\n'), "\n", 1, 1)
	wantText(t, "newlines alone", codesFile(9, '\n', 257, 258), "\n\n\n\n\n\n", 3, 6)
	wantText(t, "no newline at the end", codesFile(9, 'a', '\n', 257, 'b'), "a\na\nb", 4, 3)
	wantText(t, "an entry that ends with a newline", codesFile(9, 'a', '\n', 'b', 257), "a\nba\n", 4, 2)
	wantText(t, "an entry that begins with a newline", codesFile(9, 'a', '\n', 'b', 258), "a\nb\nb", 4, 3)
	wantText(t, "a newline behind CLEAR", codesFile(9, 'a', api.Clear, '\n'), "a\n", 3, 1)
}

func TestCodesClear(t *testing.T) {
	wantText(t, "CLEAR alone", codesFile(9, api.Clear), "", 1, 0)
	wantText(t, "CLEAR twice", codesFile(9, api.Clear, api.Clear), "", 2, 0)
	wantText(t, "CLEAR at first and last", codesFile(9, api.Clear, 'a', 'b', 257, api.Clear), "abab", 5, 1)
	wantText(t, "the number of an entry, twice", codesFile(9, 'a', 'b', 257, api.Clear, 'c', 'd', 257), "ababcdcd", 7, 1)
	wantText(t, "no entry of the code ahead of CLEAR", codesFile(9, 'a', api.Clear, 'b', 257), "abbb", 4, 1)
	wantText(t, "an entry ahead of CLEAR is kept", codesFile(9, 'a', 'b', 257, 259, api.Clear, 'x', 257, 'y', 258), "abababaxxxyxxy", 9, 1)
	for _, code := range []int{257, 258, 300, 511} {
		wantNoShape(t, "no byte at first", codesFile(9, code), api.ErrFile)
		wantNoShape(t, "no byte at first, but entries later", codesFile(9, code, 'a', 'b'), api.ErrFile)
		wantNoShape(t, "no byte behind CLEAR", codesFile(9, 'a', 'b', 'c', 'd', api.Clear, code), api.ErrFile)
		wantNoShape(t, "no byte behind CLEAR, twice", codesFile(9, 'a', 'b', 'c', api.Clear, api.Clear, code), api.ErrFile)
	}
	wantNoShape(t, "an entry that is gone", codesFile(9, 'a', 'b', 'c', api.Clear, 'd', 258), api.ErrFile)
}

func TestCodesBeyondTheTable(t *testing.T) {
	for width := api.MinWidth; width <= api.MaxWidth; width++ {
		for ahead := 1; ahead < 600; ahead += 37 {
			codes := repeated('a', ahead)
			free := min(api.First+ahead-1, 1<<width)
			if free < 1<<width {
				wantShape(t, "the free entry", codesFile(width, append(codes, free)...), api.Info{Kind: 'Z', Symbols: ahead + 1, Length: ahead + 2, Lines: 1})
			}
			for _, beyond := range []int{free + 1, free + 2, free + 9, 511, 1023, 2047, 4095} {
				w := newCodeWriter(width)
				for _, c := range codes {
					w.write(c)
				}
				if beyond > free && beyond < 1<<w.width() {
					w.write(beyond)
					wantNoShape(t, "beyond the free entry", w.file(), api.ErrFile)
				}
			}
		}
	}
}

// Codes of single bytes, one with each width that comes about, in turn; what is
// read with a wrong width becomes another text.
func TestCodesWidths(t *testing.T) {
	for width := api.MinWidth; width <= api.MaxWidth; width++ {
		w := newCodeWriter(width)
		text := ""
		for k := 0; len(w.bytes) < api.MaxFile-5; k++ {
			before := w.free
			w.write('a' + k%26)
			text += string([]byte{byte('a' + k%26)})
			for _, at := range []int{511, 512, 513, 1023, 1024, 1025, 2047, 2048, 2049} {
				if w.free == at && before != at {
					wantText(t, "a table about as full as a width holds", w.file(), text, len(text), 1)
				}
			}
		}
		wantText(t, "the longest file", w.file(), text, len(text), 1)
	}
}

func TestCodesWidthBehindClear(t *testing.T) {
	codes := append(repeated('a', 800), api.Clear, 'b', 'c', 257)
	wantText(t, "10 bits, then CLEAR", codesFile(12, codes...), strings.Repeat("a", 800)+"bcbc", 804, 1)
	codes = append(codes, repeated('d', 300)...)
	wantText(t, "and 10 bits again", codesFile(12, codes...), strings.Repeat("a", 800)+"bcbc"+strings.Repeat("d", 300), 1104, 1)
	codes = append(repeated('a', 600), api.Clear, 'b', 'c', 257)
	wantText(t, "a table that was full", codesFile(9, codes...), strings.Repeat("a", 600)+"bcbc", 604, 1)
}

// The last entry of a full table is read while it is just coming, and again when
// there is no room for a further one.
func TestCodesFullTable(t *testing.T) {
	for width := 9; width <= 11; width++ {
		last := 1<<width - 1
		w := newCodeWriter(width)
		text := ""
		symbols := 0
		for w.free < last {
			w.write('a' + symbols%2)
			text += string([]byte{byte('a' + symbols%2)})
			symbols++
		}
		entry := text[len(text)-1:] + text[len(text)-1:]
		w.write(last)
		wantText(t, "the last entry, just coming", w.file(), text+entry, symbols+1, 1)
		w.write(last)
		wantText(t, "and again", w.file(), text+entry+entry, symbols+2, 1)
		w.write('\n')
		w.write(257)
		w.write(last)
		text += entry + entry + "\nab" + entry
		wantText(t, "and others", w.file(), text, symbols+5, 2)
		w.write(api.Clear)
		w.write('x')
		w.write(257)
		wantText(t, "and CLEAR", w.file(), text+"xxx", symbols+8, 2)
	}
}

// All codes are the one that is just coming: each entry is a byte longer than
// the one ahead of it, up to the longest text that a file of codes can have.
func TestCodesLongestText(t *testing.T) {
	for width := api.MinWidth; width <= api.MaxWidth; width++ {
		w := newCodeWriter(width)
		w.write('a')
		length, symbols := 1, 1
		for len(w.bytes) < api.MaxFile-5 {
			code := min(w.free, 1<<width-1)
			w.write(code)
			length += code - 255
			symbols++
		}
		file := w.file()
		wantShape(t, "the longest text", file, api.Info{Kind: 'Z', Symbols: symbols, Length: length, Lines: 1})
		for _, from := range []int{0, 1, length / 2, length - 2000} {
			wantCut(t, file, from, from+2000, strings.Repeat("a", 2000))
		}
		wantNoCut(t, file, length-1, length+1, api.ErrRange)
	}
}

func TestCodesBitsLeft(t *testing.T) {
	for count := 1; count <= 24; count++ {
		w := newCodeWriter(9)
		for range count {
			w.write(0)
		}
		file := w.file()
		wantText(t, "no bit left is 1", file, strings.Repeat("\x00", count), count, 1)
		for bit := w.used; bit < 8*len(w.bytes); bit++ {
			w.bytes[bit/8] |= 1 << (bit % 8)
			wantNoShape(t, "a bit left is 1", w.file(), api.ErrFile)
			w.bytes[bit/8] &^= 1 << (bit % 8)
		}
		if count%8 == 0 {
			wantNoShape(t, "eight bits left", file+"\x00", api.ErrFile)
			wantText(t, "a code more", file+"\x00\x00", strings.Repeat("\x00", count+1), count+1, 1)
		} else {
			wantText(t, "a code more", file+"\x00", strings.Repeat("\x00", count+1), count+1, 1)
		}
	}
	for _, one := range []string{"\x00", "a", "\x01", "\xff"} {
		wantNoShape(t, "a byte alone", "SZ\x09"+one, api.ErrFile)
	}
}

// With wide codes more than a byte can be left that is no code.
func TestCodesBytesLeft(t *testing.T) {
	for width := 10; width <= 12; width++ {
		w := newCodeWriter(width)
		text := ""
		for widest := 0; widest < 20; {
			if len(text)%5 == 0 || w.width() == width {
				wantByteMore(t, w, text)
			}
			if w.width() == width {
				widest++
			}
			w.write('a')
			text += "a"
		}
	}
}

func wantByteMore(t *testing.T, w *codeWriter, text string) {
	t.Helper()
	if left := 8*len(w.bytes) - w.used; left+8 < w.width() {
		wantNoShape(t, "a byte left, or more", w.file()+"\x00", api.ErrFile)
	} else {
		wantText(t, "a code more", w.file()+"\x00", text+"\x00", len(text)+1, 1)
	}
}

func TestCodesWidthByte(t *testing.T) {
	for width := range 256 {
		file := "SZ" + string([]byte{byte(width)})
		if width >= 9 && width <= 12 {
			wantText(t, "a width", file, "", 0, 0)
		} else {
			wantNoShape(t, "no width", file, api.ErrFile)
			wantNoShape(t, "no width, and a code", file+"a\x00", api.ErrFile)
		}
	}
	wantNoShape(t, "no byte of a width", "SZ", api.ErrFile)
}
