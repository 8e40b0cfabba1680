package packed

import "sift/api"

// cutter goes along a text, and past what lies outside of the cut in one step.
type cutter struct {
	text *Text
	from int
	to   int
	at   int
	out  []byte
}

// Cut tells the bytes of a text between two of its places.
func (t *Text) Cut(from int, to int) string {
	c := cutter{text: t, from: from, to: to}
	for i := 0; i < len(t.Start) && c.at < to; i++ {
		c.symbol(t.Start[i])
	}
	return string(c.out)
}

// symbol goes as deep as rules stand in rules, and no further, because in a
// rule only rules ahead of it stand.
func (c *cutter) symbol(symbol int) {
	if c.at >= c.to {
		return
	}
	behind := c.at + c.text.Part(symbol).Length
	if behind <= c.from {
		c.at = behind
		return
	}
	if symbol < api.Rule {
		c.out = append(c.out, byte(symbol))
		c.at = behind
		return
	}
	rule := c.text.Rule(symbol)
	c.symbol(rule.Left)
	c.symbol(rule.Right)
}
