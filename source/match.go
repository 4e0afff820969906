package source

import (
	"strings"

	"transept/api"
	"transept/host"
	"transept/percent"
	"transept/weburl"
)

// loading is what a source is asked about: a URL, the page's own one, and whether a redirect led there.
type loading struct {
	source     api.Source
	u, self    api.URL
	redirected bool
}

// matches tell, of each kind that lets anything through, whether a source does.
func matches() map[int]func(l loading) bool {
	return map[int]func(l loading) bool{
		api.SourceAny:    loading.byAny,
		api.SourceScheme: loading.byScheme,
		api.SourceHost:   loading.byHost,
		api.SourceSelf:   loading.bySelf,
	}
}

// byAny tells whether the URL is of the web, or of the page's scheme.
func (l loading) byAny() bool {
	return l.u.Scheme == "http" || l.u.Scheme == "https" || l.u.Scheme == l.self.Scheme
}

// byScheme tells whether the source's scheme lets the URL's through.
func (l loading) byScheme() bool {
	return together(l.source.Scheme, l.u.Scheme)
}

// bySelf tells whether the URL is of the page's origin, or of one at the same host and port that is as safe, or safer.
func (l loading) bySelf() bool {
	if weburl.Same(l.u, l.self) {
		return true
	}
	if l.u.Host == "" || l.u.Host != l.self.Host || l.u.Port != l.self.Port {
		return false
	}
	return l.u.Scheme == "https" || l.u.Scheme == "wss" || l.self.Scheme == "http" && l.u.Scheme == "ws"
}

// byHost tells whether all that the source names fits the URL.
func (l loading) byHost() bool {
	scheme := l.source.Scheme
	if scheme == "" {
		scheme = l.self.Scheme
	}
	return together(scheme, l.u.Scheme) && l.hostFits() && l.portFits() && l.pathFits()
}

// hostFits tells whether the URL's host is the source's, or one below it; no address is, even if it is written alike.
func (l loading) hostFits() bool {
	if l.u.Host == "" || !host.Domain(l.u.Host) {
		return false
	}
	if l.source.Host == "*" || l.source.Host == l.u.Host {
		return true
	}
	below, star := strings.CutPrefix(l.source.Host, "*.")
	return star && strings.HasSuffix(l.u.Host, "."+below) && l.u.Host != "."+below
}

// portFits tells whether the URL's port is the source's, written or not.
func (l loading) portFits() bool {
	switch l.source.Port {
	case anyPort, l.u.Port:
		return true
	}
	return l.u.Port == noPort && l.source.Port == usualPort(l.u.Scheme)
}

// pathFits tells whether the URL's path is the source's, or below it; behind a redirect it would tell the page where that led.
func (l loading) pathFits() bool {
	if l.redirected || l.source.Path == "" {
		return true
	}
	want, got := strings.Split(l.source.Path, "/"), strings.Split(l.u.Path, "/")
	last := len(want) - 1
	if want[last] == "" {
		return len(got) > last && sameParts(want[:last], got)
	}
	return len(got) == len(want) && sameParts(want, got)
}

// sameParts tells whether each of the parts is, decoded, the one of got, that has as many at least, at its place.
func sameParts(parts, got []string) bool {
	for at, part := range parts {
		if percent.Decode(part) != percent.Decode(got[at]) {
			return false
		}
	}
	return true
}

// together tells whether a source of the scheme a lets a URL of the scheme b through, as it is the same, or safer.
func together(a, b string) bool {
	switch a {
	case b:
		return true
	case "http", "wss":
		return b == "https"
	case "ws":
		return b == "wss" || b == "http" || b == "https"
	}
	return false
}

// usualPort is a scheme's default port; noPort, if it has none.
func usualPort(scheme string) int {
	switch scheme {
	case "http", "ws":
		return 80
	case "https", "wss":
		return 443
	}
	return noPort
}
