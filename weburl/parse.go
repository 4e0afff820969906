package weburl

import (
	"strconv"
	"strings"

	"transept/api"
	"transept/host"
	"transept/percent"
)

// Parse is a text's URL (H1).
func Parse(s string) (api.URL, api.Errno) {
	name, rest, colon := strings.Cut(clean(s), ":")
	u := api.URL{Scheme: lower(name), Port: noPort}
	if !colon || !known(u.Scheme) {
		return api.URL{}, api.ErrURL
	}
	rest, u.Fragment = cutSign(rest, "#", percent.Fragment)
	if special(u.Scheme) {
		rest, u.Query = cutSign(rest, "?", percent.Special)
		return parseSpecial(u, strings.ReplaceAll(rest, `\`, "/"))
	}
	rest, u.Query = cutSign(rest, "?", percent.Query)
	u.Path = percent.Encode(percent.C0, rest)
	return u, api.OK
}

// clean is a text without what may stand around a URL, and be strewn within it.
func clean(s string) string {
	trimmed := strings.TrimFunc(s, func(r rune) bool { return r <= ' ' })
	return strings.NewReplacer("\t", "", "\n", "", "\r", "").Replace(trimmed)
}

// cutSign is what is ahead of the first such sign, and the sign with what is behind it encoded; nothing, if there is no such sign.
func cutSign(s, sign string, set int) (ahead, from string) {
	ahead, behind, found := strings.Cut(s, sign)
	if !found {
		return s, ""
	}
	return ahead, sign + percent.Encode(set, behind)
}

// parseSpecial is a special URL u with what its rest tells: host, port and path.
func parseSpecial(u api.URL, rest string) (api.URL, api.Errno) {
	behind, slashes := strings.CutPrefix(rest, "//")
	authority, path, _ := strings.Cut(behind, "/")
	if !slashes || strings.Contains(authority, "@") {
		return api.URL{}, api.ErrURL
	}
	name, digits := cutPort(authority)
	written, e := host.Parse(name)
	if e != api.OK {
		return api.URL{}, api.ErrURL
	}
	port, e := parsePort(digits, schemes()[u.Scheme])
	if e != api.OK {
		return api.URL{}, api.ErrURL
	}
	u.Host, u.Port, u.Path = written, port, parsePath(path)
	return u, api.OK
}

// cutPort is what is ahead of an authority's first colon that is not in brackets, and what is behind it.
func cutPort(authority string) (name, digits string) {
	// Nothing is in a bracket that is not closed: to look for its end each time would take too long.
	lastClosed := strings.LastIndexByte(authority, ']')
	for at := 0; at < len(authority); at++ {
		switch c := authority[at]; {
		case c == ':':
			return authority[:at], authority[at+1:]
		case c == '[' && at < lastClosed:
			at += strings.IndexByte(authority[at:], ']')
		}
	}
	return authority, ""
}

// parsePort is the port that digits tell: noPort, if there are none, or if it is the usual one.
func parsePort(digits string, usual int) (int, api.Errno) {
	if digits == "" {
		return noPort, api.OK
	}
	n, err := strconv.ParseUint(digits, 10, 16)
	port := int(n)
	switch {
	case err != nil:
		return 0, api.ErrURL
	case port == usual:
		return noPort, api.OK
	}
	return port, api.OK
}
