package sift_test

import (
	"math/big"
	"strings"
	"testing"

	"sift/api"
)

// A model is what the document's words say of a file: found out with numbers
// without bounds for rules, and by writing all the text out for codes.
type model struct {
	errno api.Errno
	info  api.Info
	cut   func(from int, to int) string
}

var noFile = model{errno: api.ErrFile}

func modelOf(file string) model {
	switch {
	case len(file) > 4000:
		return noFile
	case strings.HasPrefix(file, "SG"):
		return modelOfRules(file)
	case strings.HasPrefix(file, "SZ"):
		return modelOfCodes(file)
	}
	return noFile
}

// A grown has of each symbol how many bytes and newlines it stands for, and the
// symbols that it is made of.
type grown struct {
	length   []*big.Int
	newlines []*big.Int
	parts    [][]int
}

func (g *grown) add(parts []int) {
	length, newlines := new(big.Int), new(big.Int)
	for _, p := range parts {
		length.Add(length, g.length[p])
		newlines.Add(newlines, g.newlines[p])
	}
	g.length = append(g.length, length)
	g.newlines = append(g.newlines, newlines)
	g.parts = append(g.parts, parts)
}

func singles() *grown {
	g := &grown{}
	for c := range 256 {
		newlines := big.NewInt(0)
		if c == '\n' {
			newlines = big.NewInt(1)
		}
		g.length = append(g.length, big.NewInt(1))
		g.newlines = append(g.newlines, newlines)
		g.parts = append(g.parts, nil)
	}
	return g
}

func (g *grown) byteAt(symbol int, place *big.Int) byte {
	for symbol >= 256 {
		rest := new(big.Int).Set(place)
		for _, p := range g.parts[symbol] {
			if rest.Cmp(g.length[p]) < 0 {
				symbol = p
				break
			}
			rest.Sub(rest, g.length[p])
		}
		place = rest
	}
	return byte(symbol)
}

func (g *grown) cut(symbol int, from int, to int) string {
	var bytes []byte
	for i := from; i < to; i++ {
		bytes = append(bytes, g.byteAt(symbol, big.NewInt(int64(i))))
	}
	return string(bytes)
}

func modelOfRules(file string) model {
	var symbols []int
	if len(file) < 5 || file[2] > 100 || len(file)%2 == 0 {
		return noFile
	}
	for i := 3; i < len(file); i += 2 {
		symbols = append(symbols, int(file[i])+256*int(file[i+1]))
	}
	rules := int(file[2])
	if len(symbols) <= 2*rules || symbols[2*rules] != len(symbols)-2*rules-1 || symbols[2*rules] > 1000 {
		return noFile
	}
	g := singles()
	for k := range rules + 1 {
		parts := symbols[2*rules+1:]
		if k < rules {
			parts = symbols[2*k : 2*k+2]
		}
		for _, p := range parts {
			if p >= 256+k {
				return noFile
			}
		}
		g.add(parts)
	}
	return g.model(256+rules, len(symbols)-2*rules-1)
}

func (g *grown) model(whole int, symbols int) model {
	if g.length[whole].Cmp(big.NewInt(1<<40)) > 0 {
		return model{errno: api.ErrBig}
	}
	info := api.Info{Kind: 'G', Symbols: symbols}
	info.Length = int(g.length[whole].Int64())
	info.Lines = int(g.newlines[whole].Int64())
	cut := func(from int, to int) string { return g.cut(whole, from, to) }
	if info.Length > 0 && cut(info.Length-1, info.Length) != "\n" {
		info.Lines++
	}
	return model{info: info, cut: cut}
}

func modelOfCodes(file string) model {
	if len(file) < 3 || file[2] < 9 || file[2] > 12 {
		return noFile
	}
	most := int(file[2])
	var bits []int
	for i := range 8 * (len(file) - 3) {
		bits = append(bits, int(file[3+i/8])>>(i%8)&1)
	}
	text := ""
	codes := 0
	table := [4097]string{}
	free, ahead := 257, ""
	for {
		w := 9
		for 1<<w <= free {
			w++
		}
		w = min(w, most)
		if len(bits) < w {
			break
		}
		code := 0
		for i := range w {
			code += bits[i] << i
		}
		bits = bits[w:]
		codes++
		if code == 256 {
			free, ahead = 257, ""
			continue
		}
		entry := table[code]
		switch {
		case code < 256:
			entry = string([]byte{byte(code)})
		case ahead == "":
			return noFile
		case code == free && free < 1<<most:
			entry = ahead + ahead[:1]
		case code >= free:
			return noFile
		}
		text += entry
		if ahead != "" && free < 1<<most {
			table[free] = ahead + entry[:1]
			free++
		}
		ahead = entry
	}
	for _, bit := range bits {
		if bit == 1 {
			return noFile
		}
	}
	if len(bits) >= 8 {
		return noFile
	}
	info := api.Info{Kind: 'Z', Symbols: codes, Length: len(text), Lines: strings.Count(text, "\n")}
	if text != "" && !strings.HasSuffix(text, "\n") {
		info.Lines++
	}
	return model{info: info, cut: func(from int, to int) string { return text[from:to] }}
}

func wantShapeAsModel(t *testing.T, file string, m model) {
	t.Helper()
	if m.errno != api.OK {
		wantNoShape(t, "as the model", file, m.errno)
	} else {
		wantShape(t, "as the model", file, m.info)
	}
}

func wantCutsAsModel(t *testing.T, file string, m model, d *dice) {
	t.Helper()
	if m.errno != api.OK {
		return
	}
	for range 4 {
		from := d.far(m.info.Length + 1)
		to := min(from+d.below(40), m.info.Length)
		wantCut(t, file, from, to, m.cut(from, to))
		wantNoCut(t, file, to+1, to, api.ErrRange)
		wantNoCut(t, file, m.info.Length, m.info.Length+1+d.below(9), api.ErrRange)
	}
	wantCut(t, file, 0, min(30, m.info.Length), m.cut(0, min(30, m.info.Length)))
	wantCut(t, file, max(0, m.info.Length-30), m.info.Length, m.cut(max(0, m.info.Length-30), m.info.Length))
}

func (d *dice) far(n int) int {
	return int((uint64(d.below(1<<30))<<30 | uint64(d.below(1<<30))) % uint64(n))
}

// rulesFile makes up rules that lengthen quickly, so that many texts have about
// as many bytes as a text may have.
func (d *dice) rulesFile() string {
	rules := make([]rule, d.below(3)*d.below(36))
	bad := d.below(8) == 0
	for k := range rules {
		rules[k] = rule{d.symbol(k, bad), d.symbol(k, bad)}
	}
	start := make([]int, d.below(9))
	for i := range start {
		start[i] = d.symbol(len(rules), bad)
	}
	return rulesFile(rules, start...)
}

func (d *dice) symbol(rules int, bad bool) int {
	switch {
	case bad && d.below(20) == 0:
		return r0 + rules + d.below(3)
	case rules > 0 && d.below(8) > 0:
		return r0 + rules - 1 - d.below(min(rules, 2))
	case rules > 0 && d.below(2) > 0:
		return r0 + d.below(rules)
	}
	return int("ab\n\xff"[d.below(4)])
}

// codesFile makes up codes: bytes, entries, the one that is just coming, CLEAR.
func (d *dice) codesFile() string {
	w := newCodeWriter(9 + d.below(4))
	count := d.below(20)
	if d.below(20) == 0 {
		count = d.below(2400)
	}
	bad := d.below(8) == 0
	clears := d.below(3) == 0
	for range count {
		w.write(d.code(w, bad, clears))
	}
	return w.file()
}

func (d *dice) code(w *codeWriter, bad bool, clears bool) int {
	room := 0
	if w.ahead && w.free < 1<<w.most {
		room = 1
	}
	switch {
	case bad && d.below(20) == 0:
		return d.below(1 << w.width())
	case clears && d.below(20) == 0:
		return api.Clear
	case room == 1 && d.below(6) == 0:
		return w.free
	case w.free > api.First && d.below(2) == 0:
		return api.First + d.below(w.free-api.First)
	}
	return int("ab\n\xff"[d.below(4)])
}

// spoil changes a file a little, so that most often it is none any more.
func (d *dice) spoil(file string) string {
	at := d.below(len(file) + 1)
	switch d.below(4) {
	case 0:
		return file[:at]
	case 1:
		return file[:at] + string([]byte{byte(d.below(256))}) + file[at:]
	case 2:
		return file + string([]byte{byte(d.below(2))})
	}
	if at == len(file) {
		return file
	}
	return file[:at] + string([]byte{byte(d.below(256))}) + file[at+1:]
}

// wantFilesAsModel tells how many files had which error.
func wantFilesAsModel(t *testing.T, count int, file func(d *dice) string) [9]int {
	t.Helper()
	d := dice{state: 3}
	errnos := [9]int{}
	for range count {
		f := file(&d)
		if d.below(4) == 0 {
			f = d.spoil(f)
		}
		m := modelOf(f)
		errnos[m.errno]++
		wantShapeAsModel(t, f, m)
		wantCutsAsModel(t, f, m, &d)
	}
	if errnos[api.OK] < count/2 || errnos[api.ErrFile] < count/20 {
		t.Errorf("the made files have these errors: %v", errnos)
	}
	return errnos
}

func TestRulesAsTheDocumentSays(t *testing.T) {
	errnos := wantFilesAsModel(t, 20000, (*dice).rulesFile)
	if errnos[api.ErrBig] < 100 {
		t.Errorf("%d of the made files are too big", errnos[api.ErrBig])
	}
}

func TestCodesAsTheDocumentSays(t *testing.T) {
	wantFilesAsModel(t, 10000, (*dice).codesFile)
}

func TestShapeOfAllShortRules(t *testing.T) {
	for _, rest := range wordsOf("\x00\x01\x02\na", 7) {
		wantShapeAsModel(t, "SG"+rest, modelOf("SG"+rest))
	}
}

func TestShapeOfAllShortCodes(t *testing.T) {
	for _, width := range []string{"\x09", "\x0c"} {
		for bits := range 1 << 16 {
			file := "SZ" + width + string(two(bits))
			wantShapeAsModel(t, file, modelOf(file))
		}
		for bits := range 1 << 16 {
			file := "SZ" + width + "a" + string(two(bits))
			wantShapeAsModel(t, file, modelOf(file))
		}
	}
}
