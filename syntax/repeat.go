package syntax

func (r *reader) atRepeat() bool {
	c := r.peek(0)
	return c == '*' || c == '+' || c == '?' || c == '{'
}

func (r *reader) repeat() (int, int) {
	sign := r.next()
	switch sign {
	case '*':
		return 0, Endless
	case '+':
		return 1, Endless
	case '?':
		return 0, 1
	}
	return r.braces()
}

func (r *reader) braces() (int, int) {
	least := r.digit()
	most := least
	more := r.take(',')
	if more {
		most = r.upper()
	}
	closed := r.take('}')
	if !closed || (most != Endless && most < least) {
		r.fail()
		return 0, 0
	}
	return least, most
}

func (r *reader) upper() int {
	c := r.peek(0)
	if c == '}' {
		return Endless
	}
	return r.digit()
}

func (r *reader) digit() int {
	c := r.next()
	if c < '0' || c > '9' {
		r.fail()
		return 0
	}
	return c - '0'
}
