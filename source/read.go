package source

import (
	"strconv"
	"strings"

	"transept/api"
)

const (
	mostDigits = 5     // of a port
	mostPort   = 65535 // the greatest one
)

// read is the source that a text is; what stands beside false is of no worth.
func read(s string) (api.Source, bool) {
	if s == "*" {
		return api.Source{Kind: api.SourceAny, Port: noPort}, true
	}
	if inner, is := cutQuotes(s); is {
		return readQuoted(inner)
	}
	if scheme, is := strings.CutSuffix(s, ":"); is && isScheme(scheme) {
		return api.Source{Kind: api.SourceScheme, Scheme: lower(scheme), Port: noPort}, true
	}
	return readHost(s)
}

// cutQuotes is what stands between a text's quotes, and whether it has both.
func cutQuotes(s string) (string, bool) {
	behind, opened := strings.CutPrefix(s, "'")
	inner, closed := strings.CutSuffix(behind, "'")
	return inner, opened && closed
}

// readQuoted is the source of what stands between quotes.
func readQuoted(inner string) (api.Source, bool) {
	x := api.Source{Port: noPort}
	switch lower(inner) {
	case "none":
		x.Kind = api.SourceNone
		return x, true
	case "self":
		x.Kind = api.SourceSelf
		return x, true
	}
	begin, value, cut := strings.Cut(inner, "-")
	switch begin = lower(begin); {
	case cut && begin == "nonce":
		x.Kind, x.Text = api.SourceNonce, value
		return x, isValue(value)
	case cut && isSha(begin):
		x.Kind, x.Text = api.SourceHash, begin+"-"+value
		return x, isValue(value)
	}
	x.Kind, x.Text = api.SourceWord, lower(inner)
	return x, each(inner, inLabel)
}

// isSha tells whether a word in small letters is one that hashes begin with.
func isSha(word string) bool {
	return word == "sha256" || word == "sha384" || word == "sha512"
}

// readHost is the source of a text that is a host, with what may stand around it.
func readHost(s string) (api.Source, bool) {
	x := api.Source{Kind: api.SourceHost, Port: noPort}
	// What is ahead of these signs and is no scheme may be a host with a path.
	if scheme, rest, cut := strings.Cut(s, "://"); cut && isScheme(scheme) {
		x.Scheme, s = lower(scheme), rest
	}
	if slash := strings.IndexByte(s, '/'); slash >= 0 {
		s, x.Path = s[:slash], s[slash:]
	}
	name, digits, colon := strings.Cut(s, ":")
	x.Host = lower(name)
	right := isHost(name) && (x.Path == "" || each(x.Path, inPath))
	if colon && right {
		x.Port, right = readPort(digits)
	}
	return x, right
}

// readPort is the port that stands behind a colon.
func readPort(s string) (int, bool) {
	if s == "*" {
		return anyPort, true
	}
	if len(s) > mostDigits || !each(s, isDigit) {
		return 0, false
	}
	port, _ := strconv.Atoi(s) // of so few digits it has no fault
	return port, port <= mostPort
}

// isHost tells whether a text is a star, or labels, with a star ahead or not.
func isHost(s string) bool {
	if s == "*" {
		return true
	}
	for label := range strings.SplitSeq(strings.TrimPrefix(s, "*."), ".") {
		if !each(label, inLabel) {
			return false
		}
	}
	return true
}

// isScheme tells whether a text is a scheme, known or not.
func isScheme(s string) bool {
	return each(s, inScheme) && isLetter(rune(s[0]))
}

// isValue tells whether a text may be that of a nonce or a hash.
func isValue(s string) bool {
	return each(strings.TrimSuffix(strings.TrimSuffix(s, "="), "="), inValue)
}
