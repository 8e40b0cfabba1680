package machine

import "sift/api"

// Set is a set of states: it has the bit of each of them. The first ones are the
// steps of the pattern, each where it can have been the latest; the last three
// are others.
type Set uint64

const (
	start  = api.MaxSize     // a match can begin here
	found  = api.MaxSize + 1 // a match has ended already
	fresh  = api.MaxSize + 2 // the line has no byte yet
	states = api.MaxSize + 3

	startBit Set = 1 << start
	foundBit Set = 1 << found
	freshBit Set = 1 << fresh
)

func (s Set) has(state int) bool {
	return s>>uint(state)&1 == 1
}

// table has for each state those that can come behind it.
type table struct {
	to [states]Set
}

// Way tells of some bytes without a newline what they do to a set. The ways of
// single bytes share one table.
type Way struct {
	table *table
	takes Set // of what the table tells, these alone
}

// From tells the set behind the bytes, when there is that one ahead of them.
func (w Way) From(ahead Set) Set {
	var behind Set
	if w.table == nil {
		return behind
	}
	for i := 0; i < states && ahead != 0; i++ {
		if ahead.has(0) {
			behind |= w.table.to[i]
		}
		ahead >>= 1
	}
	return behind & w.takes
}

// Into tells from which states at least one of these is reached.
func (w Way) Into(behind Set) Set {
	var ahead Set
	if w.table == nil {
		return ahead
	}
	for i := 0; i < states; i++ {
		if w.table.to[i]&w.takes&behind != 0 {
			ahead |= 1 << uint(i)
		}
	}
	return ahead
}

// Then tells the way through these bytes and those of the next way behind them.
func (w Way) Then(next Way) Way {
	if w.table == nil {
		return Way{}
	}
	var both table
	for i := 0; i < states; i++ {
		both.to[i] = next.From(w.table.to[i] & w.takes)
	}
	return Way{table: &both, takes: next.takes}
}
