package syntax

func (r *reader) list() int {
	not := r.take('^')
	var items []Item
	for r.atItem() {
		item := r.item()
		items = append(items, item)
	}
	closed := r.take(']')
	if !closed || len(items) == 0 {
		r.fail()
	}
	return r.add(Node{Kind: Bytes, Items: items, Not: not, Size: 1})
}

func (r *reader) atItem() bool {
	c := r.peek(0)
	return c != none && c != ']'
}

func (r *reader) item() Item {
	low := r.member()
	high := low
	if r.atSecondMember() {
		r.at++
		high = r.member()
	}
	if high < low {
		r.fail()
	}
	return Item{Low: low, High: high}
}

// atSecondMember looks behind the - because one that stands last in its list is
// a member of its own.
func (r *reader) atSecondMember() bool {
	sign := r.peek(0)
	behind := r.peek(1)
	return sign == '-' && behind != none && behind != ']'
}

func (r *reader) member() int {
	c := r.next()
	if c == '\\' {
		c = r.next()
	}
	return c
}
