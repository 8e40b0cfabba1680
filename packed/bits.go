package packed

type bitReader struct {
	bytes string
	at    int
}

func (r *bitReader) left() int {
	return 8*len(r.bytes) - r.at
}

// readEnd reads what is left, and tells whether that is less than a byte, and 0.
func (r *bitReader) readEnd() bool {
	left := r.left()
	if left >= 8 {
		return false
	}
	return r.number(left) == 0
}

// number reads a number of so many bits, the lowest one first.
func (r *bitReader) number(bits int) int {
	n := 0
	for i := 0; i < bits; i++ {
		bit := r.next()
		n |= bit << uint(i)
	}
	return n
}

func (r *bitReader) next() int {
	place := r.at / 8
	if place < 0 || place >= len(r.bytes) {
		return 0
	}
	bit := int(r.bytes[place]) >> uint(r.at%8) & 1
	r.at++
	return bit
}

type bitWriter struct {
	bytes []byte
	rest  int // the bits that do not fill a byte yet
	bits  int // how many these are
}

// number writes a number of so many bits, the lowest one first.
func (w *bitWriter) number(n int, bits int) {
	w.rest |= n << uint(w.bits)
	w.bits += bits
	for w.bits >= 8 {
		w.bytes = append(w.bytes, byte(w.rest))
		w.rest >>= 8
		w.bits -= 8
	}
}

// end fills the last byte with bits that are 0, and tells all bytes.
func (w *bitWriter) end() string {
	if w.bits > 0 {
		w.number(0, 8-w.bits)
	}
	return string(w.bytes)
}
