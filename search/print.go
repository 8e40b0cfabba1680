package search

import (
	"strconv"

	"sift/api"
)

// Print tells the selected lines as they are printed, and whether these are few
// enough bytes. Each line has one at least, so that more lines need not be found.
func (s *Search) Print(numbers bool) (string, bool) {
	count := s.Count()
	if count > api.MaxOut {
		return "", false
	}
	lines := s.find(count)
	var out []byte
	for i := 0; i < len(lines); i++ {
		head := ""
		if numbers {
			head = strconv.Itoa(lines[i].number) + ":"
		}
		if len(out)+len(head)+lines[i].to-lines[i].from >= api.MaxOut {
			return "", false
		}
		text := s.text.Cut(lines[i].from, lines[i].to)
		out = append(out, head...)
		out = append(out, text...)
		out = append(out, api.Newline)
	}
	return string(out), true
}
