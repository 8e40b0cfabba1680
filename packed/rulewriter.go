package packed

import "sift/api"

// pair is two symbols that stand beside one another, and how often they do.
type pair struct {
	left  int
	right int
	count int
}

// place has one of the symbols, and where the same one stands next: behind all
// places, if it does not.
type place struct {
	symbol int
	next   int
}

// WriteRules writes a file that begins with SG.
func WriteRules(text string) string {
	var symbols []int
	for i := 0; i < len(text); i++ {
		symbols = append(symbols, int(text[i]))
	}
	var rules []pair
	for len(rules) < api.MaxRules {
		p := commonest(symbols)
		if p.count < 2 {
			break
		}
		symbols = replaced(symbols, p, api.Rule+len(rules))
		rules = append(rules, p)
	}
	return fileOfRules(rules, symbols)
}

// commonest tells the pair that is to become the next rule. It counts from each
// place on, which is too few where the pair stands ahead of it, too; but from
// the first one on it is all, and that is what is told.
func commonest(symbols []int) pair {
	places := placesOf(symbols)
	best := pair{}
	for at := 0; at+1 < len(symbols); at++ {
		p := pair{left: symbols[at], right: symbols[at+1]}
		p.count = countFrom(places, at, p.right)
		if isTakenFirst(p, best) {
			best = p
		}
	}
	return best
}

func placesOf(symbols []int) []place {
	places := make([]place, len(symbols))
	var next [api.Rule + api.MaxRules]int
	for s := 0; s < len(next); s++ {
		next[s] = len(symbols)
	}
	for i := len(symbols) - 1; i >= 0; i-- {
		s := symbols[i]
		places[i] = place{symbol: s, next: len(symbols)}
		if s >= 0 && s < len(next) {
			places[i].next = next[s]
			next[s] = i
		}
	}
	return places
}

// countFrom goes along the places that have the symbol of the first one, and past
// those that the pair met ahead of them has used up.
func countFrom(places []place, from int, right int) int {
	count := 0
	free := from
	for at := from; at >= 0 && at+1 < len(places); at = places[at].next {
		if at >= free && places[at+1].symbol == right {
			count++
			free = at + 2
		}
	}
	return count
}

func isTakenFirst(p pair, other pair) bool {
	if p.count != other.count {
		return p.count > other.count
	}
	if p.left != other.left {
		return p.left < other.left
	}
	return p.right < other.right
}

// replaced goes on by two symbols where they are the pair, as counting does.
func replaced(symbols []int, p pair, rule int) []int {
	var out []int
	for at := 0; at < len(symbols); at++ {
		symbol := symbols[at]
		if symbol == p.left && at+1 < len(symbols) && symbols[at+1] == p.right {
			symbol = rule
			at++
		}
		out = append(out, symbol)
	}
	return out
}

func fileOfRules(rules []pair, symbols []int) string {
	w := bitWriter{}
	w.number(len(rules), 8)
	for i := 0; i < len(rules); i++ {
		w.number(rules[i].left, 16)
		w.number(rules[i].right, 16)
	}
	w.number(len(symbols), 16)
	for i := 0; i < len(symbols); i++ {
		w.number(symbols[i], 16)
	}
	return "SG" + w.end()
}
