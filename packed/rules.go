package packed

import "sift/api"

type ruleReader struct {
	file string
	at   int
	bad  bool
}

// readRules reads a file that begins with SG, and tells whether it is one.
func readRules(file string) (Text, bool) {
	r := ruleReader{file: file, at: 2}
	t := Text{Kind: KindRules}
	rules := r.count(1, api.MaxRules)
	for i := 0; i < rules && !r.bad; i++ {
		left := r.symbol(i)
		right := r.symbol(i)
		t.addRule(left, right)
	}
	t.Symbols = r.count(2, api.MaxStart)
	for i := 0; i < t.Symbols && !r.bad; i++ {
		symbol := r.symbol(rules)
		t.addToStart(symbol)
	}
	if r.bad || r.at < len(file) {
		return Text{}, false
	}
	return t, true
}

// count reads a number of so many bytes, which may be at most so great.
func (r *ruleReader) count(bytes int, most int) int {
	n := r.number(bytes)
	if n > most {
		r.bad = true
		return 0
	}
	return n
}

// symbol reads a symbol where that many rules may stand.
func (r *ruleReader) symbol(rules int) int {
	return r.count(2, api.Rule+rules-1)
}

func (r *ruleReader) number(bytes int) int {
	n := 0
	for i := 0; i < bytes; i++ {
		c := r.next()
		n += c << uint(8*i)
	}
	return n
}

func (r *ruleReader) next() int {
	if r.at < 0 || r.at >= len(r.file) {
		r.bad = true
		return 0
	}
	c := int(r.file[r.at])
	r.at++
	return c
}
