package packed

import "sift/api"

// entry is the entry of a number, and one byte behind it.
type entry struct {
	number int
	behind int
}

type codeWriter struct {
	bits   bitWriter
	most   int     // the width that no code goes beyond
	joined []entry // what has joined the table, from the number api.First on
}

// WriteCodes writes a file that begins with SZ. Each beginning of an entry is an
// entry, too, so that the longest one is found by going on byte by byte.
func WriteCodes(text string, most int) string {
	w := codeWriter{most: most}
	w.bits.number(most, 8)
	number := none
	for i := 0; i < len(text); i++ {
		number = w.goOn(number, int(text[i]))
	}
	if number != none {
		w.write(number)
	}
	return "SZ" + w.bits.end()
}

// goOn tells the number of the entry that the text goes on with, when one more
// byte of it is known.
func (w *codeWriter) goOn(number int, behind int) int {
	if number == none {
		return behind
	}
	longer := w.find(number, behind)
	if longer != none {
		return longer
	}
	w.write(number)
	w.join(number, behind)
	return behind
}

func (w *codeWriter) find(number int, behind int) int {
	for i := 0; i < len(w.joined); i++ {
		if w.joined[i].number == number && w.joined[i].behind == behind {
			return api.First + i
		}
	}
	return none
}

func (w *codeWriter) join(number int, behind int) {
	next := api.First + len(w.joined)
	if next < 1<<uint(w.most) {
		w.joined = append(w.joined, entry{number: number, behind: behind})
	}
}

// write finds the width with one entry less: where the file is read, the latest
// one is still to come, because its last byte is not known ahead of this code.
func (w *codeWriter) write(number int) {
	free := api.First
	if len(w.joined) > 0 {
		free += len(w.joined) - 1
	}
	width := widthOf(free, w.most)
	w.bits.number(number, width)
}
