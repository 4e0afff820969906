package weburl

// noPort is the port of a URL that names none, or its scheme's default.
const noPort = -1

// schemes are those that a URL may have, with their default ports: noPort, if they are opaque.
func schemes() map[string]int {
	return map[string]int{
		"http":  80,
		"https": 443,
		"ws":    80,
		"wss":   443,
		"data":  noPort,
		"blob":  noPort,
		"about": noPort,
	}
}

// known tells whether a URL may have a scheme.
func known(scheme string) bool {
	_, is := schemes()[scheme]
	return is
}

// special tells whether a scheme's URLs have a host.
func special(scheme string) bool {
	return known(scheme) && schemes()[scheme] != noPort
}

// lower is a text with small letters, and all other bytes as they are.
func lower(s string) string {
	out := []byte(s)
	for at, c := range out {
		if c >= 'A' && c <= 'Z' {
			out[at] = c - 'A' + 'a'
		}
	}
	return string(out)
}
