package token

import "strings"

// gaps are the bytes that are left out at both ends of a part; unlike blanks, they end no line.
const gaps = "\t "

// Parts are the parts of a value, which is cut at each comma that stands in no quotes (I3).
func Parts(s string) []string {
	parts := []string{}
	start := 0
	quoted := false
	for at := 0; at < len(s); at++ {
		switch c := s[at]; {
		case c == '"':
			quoted = !quoted
		case c == '\\' && quoted:
			at++ // the byte behind it means nothing more, be it a quote
		case c == ',' && !quoted:
			parts = append(parts, strings.Trim(s[start:at], gaps))
			start = at + 1
		}
	}
	return append(parts, strings.Trim(s[start:], gaps))
}
