package packed

import "sift/api"

// tooLong stands for each length above the limit: the true one can be far too
// great for an int, and a rule that is too long does no harm where it stands
// nowhere.
const tooLong = api.MaxLength + 1

// Part tells of a part of a text what can be told without its bytes. One of no
// bytes is the zero Part.
type Part struct {
	Length   int
	Newlines int
	First    int // its first byte
	Last     int // its last byte
}

func partOfByte(c int) Part {
	p := Part{Length: 1, First: c, Last: c}
	if c == api.Newline {
		p.Newlines = 1
	}
	return p
}

// join tells of a with b behind it.
func join(a Part, b Part) Part {
	if a.Length == 0 {
		return b
	}
	if b.Length == 0 {
		return a
	}
	length := bounded(a.Length + b.Length)
	newlines := bounded(a.Newlines + b.Newlines)
	return Part{Length: length, Newlines: newlines, First: a.First, Last: b.Last}
}

func bounded(n int) int {
	if n > tooLong {
		return tooLong
	}
	return n
}
