package syntax

import "sift/api"

// none stands for the byte behind the last one.
const none = -1

// tooLarge stands for each size above the limit: the true one can be far
// beyond it, and no repeat makes a size less.
const tooLarge = api.MaxSize + 1

type reader struct {
	text  string
	at    int
	nodes []Node
	bad   bool
}

// fail goes to the end of the text, too, so that all that is still being read
// comes to its end by itself.
func (r *reader) fail() {
	r.bad = true
	r.at = len(r.text)
}

func (r *reader) peek(ahead int) int {
	place := r.at + ahead
	if place < 0 || place >= len(r.text) {
		return none
	}
	return int(r.text[place])
}

func (r *reader) next() int {
	c := r.peek(0)
	if c == none {
		r.fail()
		return 0
	}
	r.at++
	return c
}

func (r *reader) take(want int) bool {
	c := r.peek(0)
	if c != want {
		return false
	}
	r.at++
	return true
}

func (r *reader) pattern() int {
	pattern := r.branch()
	for r.take('|') {
		branch := r.branch()
		pattern = r.join(Either, pattern, branch)
	}
	return pattern
}

func (r *reader) branch() int {
	if r.atBranchEnd() {
		return r.add(Node{Kind: Nothing, Size: 1})
	}
	branch := r.piece()
	for !r.atBranchEnd() {
		piece := r.piece()
		branch = r.join(Both, branch, piece)
	}
	return branch
}

func (r *reader) atBranchEnd() bool {
	c := r.peek(0)
	return c == none || c == '|' || c == ')'
}

func (r *reader) piece() int {
	piece := r.atom()
	for r.atRepeat() {
		least, most := r.repeat()
		piece = r.again(piece, least, most)
	}
	return piece
}

func (r *reader) atom() int {
	c := r.next()
	switch c {
	case '(':
		return r.group()
	case '[':
		return r.list()
	case '.':
		return r.bytes(Item{Low: 0, High: 255})
	case '^':
		return r.add(Node{Kind: Begin, Size: 1})
	case '$':
		return r.add(Node{Kind: End, Size: 1})
	case '\\':
		c = r.next()
	case ')', '|', '*', '+', '?', '{':
		r.fail()
	}
	return r.bytes(Item{Low: c, High: c})
}

func (r *reader) group() int {
	inside := r.pattern()
	closed := r.take(')')
	if !closed {
		r.fail()
	}
	return inside
}

func (r *reader) bytes(item Item) int {
	items := []Item{item}
	return r.add(Node{Kind: Bytes, Items: items, Size: 1})
}

func (r *reader) join(kind Kind, left int, right int) int {
	leftSize := r.size(left)
	rightSize := r.size(right)
	return r.add(Node{Kind: kind, Left: left, Right: right, Size: leftSize + rightSize})
}

func (r *reader) again(piece int, least int, most int) int {
	times := most
	if most == Endless {
		times = least
	}
	if times < 1 {
		times = 1
	}
	size := r.size(piece)
	return r.add(Node{Kind: Repeat, Left: piece, Least: least, Most: most, Size: size * times})
}

func (r *reader) add(node Node) int {
	if node.Size > tooLarge {
		node.Size = tooLarge
	}
	r.nodes = append(r.nodes, node)
	return len(r.nodes) - 1
}

func (r *reader) size(node int) int {
	if node < 0 || node >= len(r.nodes) {
		return 0
	}
	return r.nodes[node].Size
}
