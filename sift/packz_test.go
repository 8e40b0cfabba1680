package sift_test

import (
	"strings"
	"testing"

	"sift/api"
	"sift/sift"
)

func lineCount(text string) int {
	lines := strings.Count(text, "\n")
	if text != "" && !strings.HasSuffix(text, "\n") {
		lines++
	}
	return lines
}

// wantCodes wants the very bytes of a file, and that it has the text again.
func wantCodes(t *testing.T, what string, text string, width int, codes ...int) {
	t.Helper()
	want := codesFile(width, codes...)
	got, e := sift.PackZ(text, width)
	if got != want || e != api.OK {
		t.Errorf("P6: %s: PackZ(%.60q, %d) = %.60q, %d, want %.60q, 0", what, text, width, got, e, want)
	}
	wantText(t, what, got, text, len(codes), lineCount(text))
}

func wantNoCodes(t *testing.T, text string, width int, want api.Errno) {
	t.Helper()
	got, e := sift.PackZ(text, width)
	if got != "" || e != want {
		t.Errorf("P6: PackZ(%.60q, %d) = %.60q, %d, want nothing, %d", text, width, got, e, want)
	}
}

// numbersOf tells the bytes of a text as numbers.
func numbersOf(text string) []int {
	var numbers []int
	for i := range len(text) {
		numbers = append(numbers, int(text[i]))
	}
	return numbers
}

// apart is a text in which no two bytes stand beside one another twice, so that
// each code of it is a single byte.
func apart(length int) string {
	text := make([]byte, length)
	for i := 1; i < length; i++ {
		step := 1 + 2*((i-1)/256)
		text[i] = text[i-1] + byte(step)
	}
	return string(text)
}

func TestPackZBytes(t *testing.T) {
	for _, c := range []struct {
		text  string
		width int
		want  string
	}{
		{"", 9, "SZ\x09"},
		{"", 12, "SZ\x0c"},
		{"a", 10, "SZ\x0aa\x00"},
		{"\x00", 9, "SZ\x09\x00\x00"},
		{"\xff\xff", 9, "SZ\x09\xff\xfe\x01"},
		{"aaa", 9, "SZ\x09a\x02\x02"},
		{"\n\n\n\n", 11, "SZ\x0b\x0a\x02\x2a\x00"},
	} {
		got, e := sift.PackZ(c.text, c.width)
		if got != c.want || e != api.OK {
			t.Errorf("P6: PackZ(%q, %d) = %q, %d, want %q, 0", c.text, c.width, got, e, c.want)
		}
	}
}

func TestPackZTexts(t *testing.T) {
	for width := api.MinWidth; width <= api.MaxWidth; width++ {
		wantCodes(t, "the empty text", "", width)
		wantCodes(t, "a byte", "a", width, 'a')
		wantCodes(t, "each byte is its own number", "\x00\xff\x80\x7f\n", width, 0, 255, 128, 127, '\n')
		wantCodes(t, "no entry of the last byte alone", "ab", width, 'a', 'b')
		wantCodes(t, "an entry", "abab", width, 'a', 'b', 257)
		wantCodes(t, "the longest entry", "abababab", width, 'a', 'b', 257, 259, 'b')
		wantCodes(t, "the longest entry, and not the latest", "ababcabca", width, 'a', 'b', 257, 'c', 259, 'a')
		wantCodes(t, "an entry behind which another byte stands", "ababxaby", width, 'a', 'b', 257, 'x', 257, 'y')
		wantCodes(t, "entries of entries", "abcabcabcabc", width, 'a', 'b', 'c', 257, 259, 258, 260)
		wantCodes(t, "the code that is just coming", "aaa", width, 'a', 257)
		wantCodes(t, "the code that is just coming, each time", "aaaaaaaaaa", width, 'a', 257, 258, 259)
		wantCodes(t, "the code that is just coming, of more bytes", "abababa", width, 'a', 'b', 257, 259)
		wantCodes(t, "lines", "a\na\n\n\na", width, 'a', '\n', 257, '\n', 258)
		wantCodes(t, "example 8", "one\ntwo\n\nthree", width, 'o', 'n', 'e', '\n', 't', 'w', 'o', '\n', 260, 'h', 'r', 'e', 'e')
	}
}

// Code k is the entry of k + 1 bytes, up to 34 of them: 595 bytes in all.
func TestPackZOfOneByteAlone(t *testing.T) {
	codes := []int{'a'}
	for length := 2; length <= 34; length++ {
		codes = append(codes, 255+length)
	}
	for width := api.MinWidth; width <= api.MaxWidth; width++ {
		wantCodes(t, "595 bytes", strings.Repeat("a", 595), width, codes...)
		wantCodes(t, "600 bytes", strings.Repeat("a", 600), width, append(codes, 255+5)...)
	}
}

func TestPackZLimits(t *testing.T) {
	for width := api.MinWidth; width <= api.MaxWidth; width++ {
		longest := apart(api.MaxText)
		wantCodes(t, "600 bytes", longest, width, numbersOf(longest)...)
		wantNoCodes(t, longest+"a", width, api.ErrText)
		wantNoCodes(t, strings.Repeat("a", 601), width, api.ErrText)
		wantNoCodes(t, strings.Repeat("a", 5000000), width, api.ErrText)
	}
	for _, width := range []int{-1 << 63, -9, -1, 0, 1, 7, 8, 13, 14, 64, 256 + 9, 1<<32 + 9, 1<<63 - 1} {
		wantNoCodes(t, "", width, api.ErrRange)
		wantNoCodes(t, "aaa", width, api.ErrRange)
		wantNoCodes(t, strings.Repeat("a", 600), width, api.ErrRange)
		wantNoCodes(t, strings.Repeat("a", 601), width, api.ErrText)
	}
}

// The table has the number 512 free when code 256 is read (the first one is code
// 0): this is the first code of 10 bits, if the width allows it.
func TestPackZWidths(t *testing.T) {
	for width := api.MinWidth; width <= api.MaxWidth; width++ {
		for length := range api.MaxText + 1 {
			text := apart(length)
			bits := 9 * length
			if width > 9 && length > 256 {
				bits += length - 256
			}
			file, _ := sift.PackZ(text, width)
			if len(file) != 3+(bits+7)/8 {
				t.Errorf("P6: PackZ of %d codes with width %d has %d bytes, want %d", length, width, len(file), 3+(bits+7)/8)
			}
			if length < 25 || length > 250 && length < 265 || length > 590 {
				wantCodes(t, "codes of single bytes", text, width, numbersOf(text)...)
			}
		}
	}
}

// Entry 511 is the last one of a table of width 9: it joins behind code 254.
func TestPackZFullTable(t *testing.T) {
	begin := apart(300)
	codes := numbersOf(begin)
	wantCodes(t, "the last entry, and the one that there is not", begin+"\xfe\xff\xff\x00", 9, append(codes, 511, 255, 0)...)
	wantCodes(t, "entries of a full table", begin+"\x00\x01\x02\x03\x00\x01\x02\x03", 9, append(codes, 257, 259, 257, 259)...)
	for width := 10; width <= api.MaxWidth; width++ {
		wantCodes(t, "an entry more", begin+"\xfe\xff\xff\x00", width, append(codes, 511, 512)...)
		wantCodes(t, "entries of entries", begin+"\x00\x01\x02\x03\x00\x01\x02\x03", width, append(codes, 257, 259, 557, 3)...)
	}
}

func TestPackZFullTableWhileItsLastEntryIsComing(t *testing.T) {
	begin := apart(254)
	codes := append(numbersOf(begin), 7, 511)
	wantCodes(t, "the last entry, just coming", begin+"\x07\x07\x07", 9, codes...)
	wantCodes(t, "and again", begin+"\x07\x07\x07\x07\x07\x07", 9, append(codes, 511, 7)...)
	for width := 10; width <= api.MaxWidth; width++ {
		wantCodes(t, "the first one that needs 10 bits", begin+"\x07\x07\x07\x07\x07\x07", width, append(codes, 512)...)
	}
}

func TestPackZAsTheDocumentSays(t *testing.T) {
	for _, text := range wordsOf("ab\n", 7) {
		wantCodes(t, "a short text", text, 9, codesAsTheDocumentSays(text, 9)...)
	}
	d := dice{state: 5}
	for k := range 1200 {
		text := d.text()
		width := 9 + k%4
		wantCodes(t, "as the model", text, width, codesAsTheDocumentSays(text, width)...)
	}
}

func codesAsTheDocumentSays(text string, width int) []int {
	table := map[string]int{}
	for c := range 256 {
		table[string([]byte{byte(c)})] = c
	}
	next := 257
	var codes []int
	for text != "" {
		longest := ""
		for length := range len(text) + 1 {
			if _, is := table[text[:length]]; is {
				longest = text[:length]
			}
		}
		codes = append(codes, table[longest])
		text = text[len(longest):]
		if text != "" && next < 1<<width {
			table[longest+text[:1]] = next
			next++
		}
	}
	return codes
}

// text makes up a text of few or many bytes, in which much stands again.
func (d *dice) text() string {
	var text []byte
	length := d.below(api.MaxText + 1)
	few := 1 + d.below(1+d.below(256))
	again := d.below(4)
	for len(text) < length {
		if again == 0 || len(text) == 0 || d.below(4) > again {
			text = append(text, byte(10+d.below(few)))
			continue
		}
		from := d.below(len(text))
		to := min(from+1+d.below(9), len(text))
		text = append(text, text[from:to]...)
	}
	return string(text[:length])
}
