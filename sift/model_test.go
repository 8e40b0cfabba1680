package sift_test

import (
	"strconv"
	"strings"
	"testing"

	"sift/api"
)

// A tree is a pattern that a test makes up: it can be written down, and what it
// matches is told from the document's words, from which places to which.
type tree struct {
	kind     string // "either", "both", "repeat", "begin", "end" or "byte"
	parts    []tree
	text     string // of a byte or a list, or of the repeat's sign
	holds    [256]bool
	not      bool
	least    int
	most     int // below 0: no upper bound
	sizedFor int // so many times the size
}

func (p tree) write() string {
	switch p.kind {
	case "begin":
		return "^"
	case "end":
		return "$"
	case "repeat":
		return p.parts[0].write() + p.text
	case "both":
		return p.writeParts("")
	case "either":
		return "(" + p.writeParts("|") + ")"
	}
	return p.text
}

func (p tree) writeParts(between string) string {
	var texts []string
	for _, part := range p.parts {
		texts = append(texts, part.write())
	}
	return strings.Join(texts, between)
}

func (p tree) size() int {
	sum := 0
	for _, part := range p.parts {
		sum += part.size()
	}
	switch p.kind {
	case "either":
		return sum
	case "repeat":
		return max(sum, sum*p.sizedFor)
	}
	return max(sum, 1)
}

// A ways tells from which places to which ones something matches.
type ways [][]bool

func noWays(places int) ways {
	w := make(ways, places)
	for i := range w {
		w[i] = make([]bool, places)
	}
	return w
}

func stay(places int) ways {
	w := noWays(places)
	for i := range w {
		w[i][i] = true
	}
	return w
}

func (w ways) or(v ways) ways {
	sum := noWays(len(w))
	for i := range w {
		for j := range w {
			sum[i][j] = w[i][j] || v[i][j]
		}
	}
	return sum
}

func (w ways) then(v ways) ways {
	product := noWays(len(w))
	for i := range w {
		for k := range w {
			for j := range w {
				product[i][j] = product[i][j] || (w[i][k] && v[k][j])
			}
		}
	}
	return product
}

func (p tree) ways(line string, fold bool) ways {
	switch p.kind {
	case "either":
		sum := noWays(len(line) + 1)
		for _, part := range p.parts {
			sum = sum.or(part.ways(line, fold))
		}
		return sum
	case "both":
		product := stay(len(line) + 1)
		for _, part := range p.parts {
			product = product.then(part.ways(line, fold))
		}
		return product
	case "repeat":
		return p.repeatWays(p.parts[0].ways(line, fold))
	}
	return p.singleWays(line, fold)
}

func (p tree) singleWays(line string, fold bool) ways {
	w := noWays(len(line) + 1)
	w[0][0] = p.kind == "begin"
	if p.kind == "end" {
		w[len(line)][len(line)] = true
	}
	if p.kind == "byte" {
		for i := range len(line) {
			w[i][i+1] = p.takes(int(line[i]), fold)
		}
	}
	return w
}

func (p tree) takes(c int, fold bool) bool {
	in := p.holds[c]
	for d := range 256 {
		in = in || (fold && p.holds[d] && alike(c, d))
	}
	return in != p.not
}

// repeatWays tries many more times than there are places, where there is no
// upper bound: behind those nothing new can come.
func (p tree) repeatWays(once ways) ways {
	most := p.most
	if most < 0 {
		most = p.least + 2*len(once)
	}
	sum := noWays(len(once))
	times := stay(len(once))
	for k := 0; k <= most; k++ {
		if k >= p.least {
			sum = sum.or(times)
		}
		times = times.then(once)
	}
	return sum
}

func (p tree) selects(o api.Options, line string) bool {
	w := p.ways(line, o.Fold)
	matched := w[0][len(line)]
	for i := range w {
		for j := range w {
			matched = matched || (w[i][j] && !o.Whole)
		}
	}
	return matched != o.Invert
}

// A dice throws the same numbers at each run of the tests.
type dice struct {
	state uint64
}

func (d *dice) below(n int) int {
	d.state = d.state*6364136223846793005 + 1442695040888963407
	return int(d.state>>33) % n
}

func (d *dice) pattern(depth int) tree {
	p := tree{kind: "either"}
	for range 1 + d.below(3)*d.below(2) {
		branch := tree{kind: "both"}
		for range d.below(4) {
			branch.parts = append(branch.parts, d.piece(depth))
		}
		p.parts = append(p.parts, branch)
	}
	return p
}

func (d *dice) piece(depth int) tree {
	p := d.atom(depth)
	for d.below(3) == 0 {
		p = d.repeat(p)
	}
	return p
}

func (d *dice) repeat(p tree) tree {
	least := d.below(4)
	if d.below(8) == 0 {
		least = d.below(8)
	}
	more := least + d.below(3)
	l, m := strconv.Itoa(least), strconv.Itoa(more)
	again := []tree{
		{text: "*", least: 0, most: -1, sizedFor: 1},
		{text: "+", least: 1, most: -1, sizedFor: 1},
		{text: "?", least: 0, most: 1, sizedFor: 1},
		{text: "{" + l + "}", least: least, most: least, sizedFor: least},
		{text: "{" + l + ",}", least: least, most: -1, sizedFor: least},
		{text: "{" + l + "," + m + "}", least: least, most: more, sizedFor: more},
	}[d.below(6)]
	again.kind = "repeat"
	again.parts = []tree{p}
	return again
}

func (d *dice) atom(depth int) tree {
	switch d.below(9) {
	case 0, 1:
		if depth > 0 {
			return d.pattern(depth - 1)
		}
	case 2:
		return tree{kind: "begin"}
	case 3:
		return tree{kind: "end"}
	case 4:
		return tree{kind: "byte", text: ".", not: true}
	case 5:
		return d.list()
	}
	return d.single()
}

func (d *dice) single() tree {
	c := "abAB-]}"[d.below(7)]
	p := tree{kind: "byte", text: string(c)}
	if d.below(4) == 0 {
		c = "abA^$.\\("[d.below(8)]
		p.text = "\\" + string(c)
	}
	p.holds[c] = true
	return p
}

func (d *dice) list() tree {
	p := tree{kind: "byte", not: d.below(3) == 0}
	if d.below(4) == 0 {
		p.text = "-"
		p.holds['-'] = true
	}
	for p.text == "" || d.below(2) == 0 {
		d.addItem(&p)
	}
	if d.below(4) == 0 {
		p.text += "-"
		p.holds['-'] = true
	}
	p.text = "[" + map[bool]string{false: "", true: "^"}[p.not] + p.text + "]"
	return p
}

func (d *dice) addItem(p *tree) {
	low := "aAZ[+-^]\\"[d.below(9)]
	high := low
	p.text += member(low)
	if d.below(2) == 0 {
		high = low + byte(d.below(9))
		p.text += "-" + member(high)
	}
	for c := low; c <= high; c++ {
		p.holds[c] = true
	}
}

func member(c byte) string {
	if c == '-' || c == '^' || c == ']' || c == '\\' {
		return "\\" + string(c)
	}
	return string(c)
}

func (d *dice) line() string {
	line := ""
	for range d.below(7) {
		line += string("abaAB-]^$.\\("[d.below(12)])
	}
	return line
}

func (d *dice) options() api.Options {
	return api.Options{Invert: d.below(3) == 0, Fold: d.below(2) == 0, Whole: d.below(2) == 0}
}

// made tells some patterns that are not too long, each with its text.
func made(count int) ([]tree, []string) {
	d := dice{state: 1}
	var trees []tree
	var texts []string
	for len(trees) < count {
		p := d.pattern(2)
		text := p.write()
		text = text[1 : len(text)-1]
		if len(text) <= api.MaxPattern {
			trees = append(trees, p)
			texts = append(texts, text)
		}
	}
	return trees, texts
}

func TestCheckSizeAsTheDocumentSays(t *testing.T) {
	trees, texts := made(20000)
	tooLarge := 0
	for i, p := range trees {
		if p.size() > api.MaxSize {
			wantRefused(t, texts[i], api.ErrSize)
			tooLarge++
		} else {
			wantSize(t, texts[i], p.size())
		}
	}
	if tooLarge < 20 || tooLarge > 10000 {
		t.Errorf("%d of the made patterns are too large", tooLarge)
	}
}

func TestMatchAsTheDocumentSays(t *testing.T) {
	trees, texts := made(5000)
	d := dice{state: 2}
	selected, all := 0, 0
	for i, p := range trees {
		if p.size() > api.MaxSize {
			continue
		}
		for range 8 {
			o, line := d.options(), d.line()
			want := p.selects(o, line)
			wantSelected(t, o, texts[i], line, want)
			all++
			if want {
				selected++
			}
		}
	}
	if selected < all/4 || selected > all*3/4 {
		t.Errorf("of %d made lines %d are selected", all, selected)
	}
}
