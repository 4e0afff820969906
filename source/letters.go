package source

import "strings"

// each tells whether a text has bytes, and such ones alone: a byte that is no sign of ASCII is none of them, as no such function knows another sign.
func each(s string, such func(c rune) bool) bool {
	for _, c := range s {
		if !such(c) {
			return false
		}
	}
	return s != ""
}

// lower is a text with small letters; signs beyond ASCII that have a small letter there stay, so that they are refused.
func lower(s string) string {
	return strings.Map(func(c rune) rune {
		if c >= 'A' && c <= 'Z' {
			return c - 'A' + 'a'
		}
		return c
	}, s)
}

// isLetter tells whether a sign is a letter of ASCII.
func isLetter(c rune) bool {
	return c >= 'A' && c <= 'Z' || c >= 'a' && c <= 'z'
}

// isDigit tells whether a sign is a digit of ASCII.
func isDigit(c rune) bool {
	return c >= '0' && c <= '9'
}

// inLabel tells whether a label of a host may have a sign, and so a word in quotes.
func inLabel(c rune) bool {
	return isLetter(c) || isDigit(c) || c == '-'
}

// inScheme tells whether a scheme may have a sign.
func inScheme(c rune) bool {
	return inLabel(c) || c == '+' || c == '.'
}

// inValue tells whether the value of a nonce or a hash may have a sign, ahead of its end.
func inValue(c rune) bool {
	return inLabel(c) || c == '+' || c == '/' || c == '_'
}

// inPath tells whether a path may have a sign.
func inPath(c rune) bool {
	switch c {
	case '?', '#', ';', ',':
		return false
	}
	return c > ' ' && c < 0x7F
}
