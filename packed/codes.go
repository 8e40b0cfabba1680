package packed

import "sift/api"

// none stands for a code where there is none.
const none = -1

// codeReader makes a rule of each entry that joins the table: the code ahead,
// and a byte behind it. The rules stay when the table is emptied, because codes
// ahead of that stand for them.
type codeReader struct {
	bits  bitReader
	most  int // the width that no code goes beyond
	text  Text
	gone  int // how many rules were made ahead of the last CLEAR
	ahead int // the symbol of the code ahead
	bad   bool
}

// readCodes reads a file that begins with SZ, and tells whether it is one.
func readCodes(file string) (Text, bool) {
	if len(file) < 3 {
		return Text{}, false
	}
	r := codeReader{bits: bitReader{bytes: file[3:]}, most: int(file[2]), ahead: none}
	r.text.Kind = KindCodes
	if r.most < api.MinWidth || r.most > api.MaxWidth {
		return Text{}, false
	}
	width := r.width()
	for !r.bad && r.bits.left() >= width {
		code := r.bits.number(width)
		r.take(code)
		width = r.width()
	}
	ends := r.bits.readEnd()
	if r.bad || !ends {
		return Text{}, false
	}
	return r.text, true
}

// free is the number of the table's next entry.
func (r *codeReader) free() int {
	return api.First + len(r.text.Rules) - r.gone
}

func (r *codeReader) width() int {
	free := r.free()
	return widthOf(free, r.most)
}

// widthOf tells the width of the next code, where a table has that free number.
func widthOf(free int, most int) int {
	width := api.MinWidth
	for width < most && free >= 1<<uint(width) {
		width++
	}
	return width
}

func (r *codeReader) take(code int) {
	r.text.Symbols++
	if code == api.Clear {
		r.gone = len(r.text.Rules)
		r.ahead = none
		return
	}
	free := r.free()
	joins := r.ahead != none && free < 1<<uint(r.most)
	// With no code ahead the table has single bytes alone, so that this keeps
	// those codes below 256, too.
	if code > free || (code == free && !joins) {
		r.bad = true
		return
	}
	if joins {
		first := r.firstByte(code, free)
		r.text.addRule(r.ahead, first)
	}
	r.ahead = r.symbol(code)
	r.text.addToStart(r.ahead)
}

// firstByte is that of a code's entry, which may be the very one that is free:
// this one begins with the entry of the code ahead.
func (r *codeReader) firstByte(code int, free int) int {
	symbol := r.ahead
	if code != free {
		symbol = r.symbol(code)
	}
	return r.text.Part(symbol).First
}

func (r *codeReader) symbol(code int) int {
	if code < api.Clear {
		return code
	}
	return api.Rule + r.gone + code - api.First
}
