package source

import (
	"regexp"
	"slices"
	"strconv"
	"strings"
	"testing"

	"transept/api"
	"transept/weburl"
)

// The bytes of the chapter's words, written out one by one.
const (
	small   = "abcdefghijklmnopqrstuvwxyz"
	large   = "ABCDEFGHIJKLMNOPQRSTUVWXYZ"
	digits  = "0123456789"
	letters = small + large
	inWords = letters + digits + "-"
	inNames = letters + digits + "+" + "-" + "."
	inData  = letters + digits + "+" + "/" + "-" + "_"
)

// Letters of UTF-8 that a library folds into ASCII's: the Kelvin sign and the long s.
const (
	kelvin = "\u212a"
	longS  = "\u017f"
)

// Sources as the chapter's words tell them. Letters of either case are written out, as (?i) would let signs beyond ASCII in.
var (
	nonceForm  = regexp.MustCompile(`^'[Nn][Oo][Nn][Cc][Ee]-([A-Za-z0-9+/\-_]+={0,2})'\z`)
	hashForm   = regexp.MustCompile(`^'([Ss][Hh][Aa](?:256|384|512))(-[A-Za-z0-9+/\-_]+={0,2})'\z`)
	beginForm  = regexp.MustCompile(`^'([Nn][Oo][Nn][Cc][Ee]|[Ss][Hh][Aa](256|384|512))-`)
	wordForm   = regexp.MustCompile(`^'([A-Za-z0-9-]+)'\z`)
	schemeForm = regexp.MustCompile(`^([A-Za-z][A-Za-z0-9+.\-]*):\z`)
	hostForm   = regexp.MustCompile(`^(?:([A-Za-z][A-Za-z0-9+.\-]*)://)?` +
		`(\*|(?:\*\.)?[A-Za-z0-9-]+(?:\.[A-Za-z0-9-]+)*)` +
		`(?::(\*|[0-9]{1,5}))?` +
		`(/[\x21\x22\x24-\x2b\x2d-\x3a\x3c-\x3e\x40-\x7e]*)?\z`)
	escapeForm = regexp.MustCompile(`%[0-9A-Fa-f]{2}`)
	numberForm = regexp.MustCompile(`^([0-9]+|0[xX][0-9a-fA-F]*)\z`)
)

// The schemes that the issue names, and some that nobody knows.
var schemes = []string{"http", "https", "ws", "wss", "data", "blob", "about", "ftp", "httpx", "HTTP", ""}

// one is the text of one byte.
func one(c int) string { return string([]byte{byte(c)}) }

// lowered is a text in small letters, by the document's words.
func lowered(s string) string {
	out := strings.Builder{}
	for at := range len(s) {
		if letter := strings.Index(large, s[at:at+1]); letter >= 0 {
			out.WriteByte(small[letter])
		} else {
			out.WriteByte(s[at])
		}
	}
	return out.String()
}

// wordsParse is Parse as the chapter's words tell it.
func wordsParse(s string) (api.Source, bool) {
	if s == "*" {
		return api.Source{Kind: 1, Port: -1}, true
	}
	switch lowered(s) {
	case "'none'":
		return api.Source{Kind: 0, Port: -1}, true
	case "'self'":
		return api.Source{Kind: 4, Port: -1}, true
	}
	if m := nonceForm.FindStringSubmatch(s); m != nil {
		return api.Source{Kind: 5, Port: -1, Text: m[1]}, true
	}
	if m := hashForm.FindStringSubmatch(s); m != nil {
		return api.Source{Kind: 6, Port: -1, Text: lowered(m[1]) + m[2]}, true
	}
	if m := wordForm.FindStringSubmatch(s); m != nil && !beginForm.MatchString(s) {
		return api.Source{Kind: 7, Port: -1, Text: lowered(m[1])}, true
	}
	if m := schemeForm.FindStringSubmatch(s); m != nil {
		return api.Source{Kind: 2, Port: -1, Scheme: lowered(m[1])}, true
	}
	return wordsParseHost(hostForm.FindStringSubmatch(s))
}

// wordsParseHost is the source of what was found of a host.
func wordsParseHost(m []string) (api.Source, bool) {
	if m == nil {
		return api.Source{}, false
	}
	x := api.Source{Kind: 3, Scheme: lowered(m[1]), Host: lowered(m[2]), Port: -1, Path: m[4]}
	if m[3] == "*" {
		x.Port = -2
	} else if m[3] != "" {
		x.Port, _ = strconv.Atoi(m[3])
	}
	if x.Port > 65535 {
		return api.Source{}, false
	}
	return x, true
}

// wordsTogether: a source's scheme goes with a URL's.
func wordsTogether(a, b string) bool {
	pairs := []string{"http https", "ws wss", "ws http", "ws https", "wss https"}
	return a == b || slices.Contains(pairs, a+" "+b)
}

// wordsSelf is whether 'self' lets a URL through.
func wordsSelf(u, self api.URL) bool {
	if weburl.Same(u, self) {
		return true
	}
	alike := u.Host == self.Host && u.Host != "" && u.Port == self.Port
	safer := u.Scheme == "https" || u.Scheme == "wss" || (self.Scheme == "http" && u.Scheme == "ws")
	return alike && safer
}

// wordsDomain: a host is no address.
func wordsDomain(name string) bool {
	parts := strings.Split(name, ".")
	if len(parts) > 1 && parts[len(parts)-1] == "" {
		parts = parts[:len(parts)-1]
	}
	return !strings.HasPrefix(name, "[") && !numberForm.MatchString(parts[len(parts)-1])
}

// wordsHost: a source's host fits a URL's.
func wordsHost(want, got string) bool {
	if got == "" || !wordsDomain(got) {
		return false
	}
	below := strings.HasPrefix(want, "*.") && strings.HasSuffix(got, want[1:]) && len(got) > len(want)-1
	return want == "*" || below || want == got
}

// wordsPort: a source's port fits a URL's.
func wordsPort(want int, u api.URL) bool {
	usual := map[string]int{"http": 80, "ws": 80, "https": 443, "wss": 443}
	switch want {
	case -1:
		return u.Port == -1
	case -2:
		return true
	}
	port, has := usual[u.Scheme]
	return want == u.Port || (u.Port == -1 && has && want == port)
}

// unescaped is a text, decoded.
func unescaped(s string) string {
	return escapeForm.ReplaceAllStringFunc(s, func(e string) string {
		n, _ := strconv.ParseUint(e[1:], 16, 8)
		return one(int(n))
	})
}

// wordsPath: a source's path fits a URL's.
func wordsPath(want, got string) bool {
	if want == "" {
		return true
	}
	wants, gots := strings.Split(want, "/"), strings.Split(got, "/")
	if strings.HasSuffix(want, "/") {
		if len(gots) < len(wants) {
			return false
		}
		wants = wants[:len(wants)-1]
	} else if len(gots) != len(wants) {
		return false
	}
	for at, part := range wants {
		if unescaped(part) != unescaped(gots[at]) {
			return false
		}
	}
	return true
}

// wordsMatch is Match as the chapter's words tell it.
func wordsMatch(x api.Source, u, self api.URL, redirected bool) bool {
	switch x.Kind {
	case 1:
		return u.Scheme == "http" || u.Scheme == "https" || u.Scheme == self.Scheme
	case 2:
		return wordsTogether(x.Scheme, u.Scheme)
	case 3:
		scheme := x.Scheme
		if scheme == "" {
			scheme = self.Scheme
		}
		return wordsTogether(scheme, u.Scheme) && wordsHost(x.Host, u.Host) && wordsPort(x.Port, u) && (redirected || wordsPath(x.Path, u.Path))
	case 4:
		return wordsSelf(u, self)
	}
	return false
}

// eachText hands all texts of at most size of these pieces to do.
func eachText(pieces []string, size int, do func(s string)) {
	var more func(s string, left int)
	more = func(s string, left int) {
		do(s)
		if left == 0 {
			return
		}
		for _, piece := range pieces {
			more(s+piece, left-1)
		}
	}
	more("", size)
}

// eachCase hands a text to do in small letters, in large ones, by turns, and with each of its letters alone being large, or small.
func eachCase(s string, do func(s string)) {
	low, up := lowered(s), strings.ToUpper(s)
	do(low)
	do(up)
	turns := [2][]byte{[]byte(low), []byte(low)}
	for at := range len(s) {
		do(low[:at] + up[at:at+1] + low[at+1:])
		do(up[:at] + low[at:at+1] + up[at+1:])
		turns[at%2][at] = up[at]
	}
	do(string(turns[0]))
	do(string(turns[1]))
}

// eachNear hands what a text is with a byte less or more, or another one, to do.
func eachNear(s string, do func(s string)) {
	some := []string{" ", "x", "-", "_", "'", "*", ".", ":", "/", "=", "+", "0", "?", "\t", "\x00", "\x7f", "\xff", kelvin, longS}
	for at := range len(s) {
		do(s[:at] + s[at+1:])
		for _, other := range some {
			do(s[:at] + other + s[at+1:])
		}
	}
	for at := range len(s) + 1 {
		for _, more := range some {
			do(s[:at] + more + s[at:])
		}
	}
}

// eachByte hands each byte, as a text, to do.
func eachByte(do func(s string)) {
	for c := range 256 {
		do(one(c))
	}
}

// checkParse: a text is this source.
func checkParse(t *testing.T, s string, want api.Source) {
	t.Helper()
	if got, ok := Parse(s); got != want || !ok {
		t.Errorf("Parse(%q): %+v %t, want %+v", s, got, ok, want)
	}
}

// checkKinds: each of the texts is a source of this kind, with this text in it.
func checkKinds(t *testing.T, kind int, want map[string]string) {
	t.Helper()
	for s, text := range want {
		checkParse(t, s, api.Source{Kind: kind, Port: -1, Text: text})
	}
}

// refuse: none of these texts is a source.
func refuse(t *testing.T, texts ...string) {
	t.Helper()
	for _, s := range texts {
		if got, ok := Parse(s); ok || got != (api.Source{}) {
			t.Errorf("Parse(%q): %+v %t, want none", s, got, ok)
		}
	}
}

// checkWords: Parse tells what the chapter's words say, and what it tells is written so that it is parsed as it is.
func checkWords(t *testing.T, s string) {
	t.Helper()
	want, is := wordsParse(s)
	got, ok := Parse(s)
	if got != want || ok != is {
		t.Fatalf("Parse(%q): %+v %t, want %+v %t", s, got, ok, want, is)
	}
	if again, ok := Parse(Text(got)); is && (again != got || !ok) {
		t.Fatalf("Parse(%q): %+v %t, want %+v", Text(got), again, ok, got)
	}
}

// source is the source that a text is.
func source(t *testing.T, s string) api.Source {
	t.Helper()
	x, ok := Parse(s)
	if !ok {
		t.Fatalf("%q is no source", s)
	}
	return x
}

// url is the URL that a text is.
func url(t *testing.T, s string) api.URL {
	t.Helper()
	u, e := weburl.Parse(s)
	if e != api.OK {
		t.Fatalf("%q is no URL", s)
	}
	return u
}

// checkMatch: a source lets these URLs through to a page, and those not.
func checkMatch(t *testing.T, s, self string, through, not []string) {
	t.Helper()
	for _, u := range through {
		if !Match(source(t, s), url(t, u), url(t, self), false) {
			t.Errorf("Match(%s, %s, %s): false", s, u, self)
		}
	}
	for _, u := range not {
		if Match(source(t, s), url(t, u), url(t, self), false) {
			t.Errorf("Match(%s, %s, %s): true", s, u, self)
		}
	}
}

// checkAll: Match tells what the chapter's words say of each of these sources with each of the URLs and of the pages.
func checkAll(t *testing.T, sources []api.Source, urls, pages []api.URL) {
	t.Helper()
	for _, x := range sources {
		for _, u := range urls {
			for _, self := range pages {
				for _, redirected := range []bool{false, true} {
					if want := wordsMatch(x, u, self, redirected); Match(x, u, self, redirected) != want {
						t.Fatalf("Match(%+v, %+v, %+v, %t): %t", x, u, self, redirected, !want)
					}
				}
			}
		}
	}
}

// M1.

func TestParseKnown(t *testing.T) {
	for s, want := range map[string]api.Source{
		"*":              {Kind: api.SourceAny, Port: -1},
		"'none'":         {Kind: api.SourceNone, Port: -1},
		"'self'":         {Kind: api.SourceSelf, Port: -1},
		"'nonce-aB3+/='": {Kind: api.SourceNonce, Port: -1, Text: "aB3+/="},
		"'sha256-xY_-='": {Kind: api.SourceHash, Port: -1, Text: "sha256-xY_-="},
		"'unsafe-eval'":  {Kind: api.SourceWord, Port: -1, Text: "unsafe-eval"},
		"https:":         {Kind: api.SourceScheme, Port: -1, Scheme: "https"},
		"a.example":      {Kind: api.SourceHost, Port: -1, Host: "a.example"},
		"*.a.example":    {Kind: api.SourceHost, Port: -1, Host: "*.a.example"},
		"https://a":      {Kind: api.SourceHost, Port: -1, Scheme: "https", Host: "a"},
		"a:8080":         {Kind: api.SourceHost, Port: 8080, Host: "a"},
		"a:*":            {Kind: api.SourceHost, Port: -2, Host: "a"},
		"a/x/Y":          {Kind: api.SourceHost, Port: -1, Host: "a", Path: "/x/Y"},
		"*:80":           {Kind: api.SourceHost, Port: 80, Host: "*"},
		"*/x":            {Kind: api.SourceHost, Port: -1, Host: "*", Path: "/x"},
		"ws://*":         {Kind: api.SourceHost, Port: -1, Scheme: "ws", Host: "*"},
		"X-y.1+://*.A.b-1.2:*/%41:x": {
			Kind: api.SourceHost, Port: -2, Scheme: "x-y.1+", Host: "*.a.b-1.2", Path: "/%41:x"},
	} {
		checkParse(t, s, want)
	}
}

func TestParseNothing(t *testing.T) {
	refuse(t, "", " ", "'", "''", "'''", "''''", "' '", "\x00", "\n", "\xff", "é", kelvin, longS, " *", "* ", "**", "'*'", "-'", "'a", "a'", "\"none\"", "`none`", "a b", "'self' 'none'", ",", ";")
}

func TestParseNoneAndSelf(t *testing.T) {
	for word, kind := range map[string]int{"none": api.SourceNone, "self": api.SourceSelf} {
		eachCase(word, func(s string) {
			checkParse(t, "'"+s+"'", api.Source{Kind: kind, Port: -1})
			refuse(t, "'"+s, s+"'", "''"+s+"'", "'"+s+"''", "\""+s+"\"", "' "+s+"'", "'"+s+" '", " '"+s+"'", "'"+s+"' ", "'"+s+"'\n")
			checkParse(t, s, api.Source{Kind: api.SourceHost, Port: -1, Host: word})
			checkParse(t, s+":", api.Source{Kind: api.SourceScheme, Port: -1, Scheme: word})
		})
	}
	refuse(t, "'"+longS+"elf'", "'no\xc3\xaene'", "'n\x00ne'")
}

func TestParseNonce(t *testing.T) {
	eachCase("nonce-", func(s string) {
		checkParse(t, "'"+s+"aBc'", api.Source{Kind: api.SourceNonce, Port: -1, Text: "aBc"})
		refuse(t, "'"+s+"'", "'"+s+"aBc", s+"aBc'", "'"+s+"='", "'"+s+"a b'", "'"+s+"aBc' ")
	})
	checkKinds(t, api.SourceNonce, map[string]string{
		"'nonce-a'": "a", "'nonce-A'": "A", "'nonce--'": "-", "'nonce-_'": "_", "'nonce-+'": "+", "'nonce-/'": "/", "'nonce-0'": "0",
		"'nonce-a='": "a=", "'nonce-a=='": "a==", "'nonce-nonce-a'": "nonce-a", "'nonce-sha256-a='": "sha256-a=", "'NONCE-AbC'": "AbC",
		"'nonce-//=='": "//==", "'nonce-" + inData + "=='": inData + "==",
	})
	refuse(t, "'nonce-='", "'nonce-=='", "'nonce-==='", "'nonce-a==='", "'nonce-a===='", "'nonce-=a'", "'nonce-a=b'", "'nonce-a=b='", "'nonce-a==b'", "'nonce-a=-'", "'nonce-a.b'", "'nonce-a*'", "'nonce-a'b'", "'nonce-é'", "'nonce-a\xff'", "'nonce-a%3D'", "'nonce- a'", "'nonce-a '")
}

func TestParseHash(t *testing.T) {
	for _, sha := range []string{"sha256", "sha384", "sha512"} {
		eachCase(sha, func(s string) {
			checkParse(t, "'"+s+"-xY+/_-=='", api.Source{Kind: api.SourceHash, Port: -1, Text: sha + "-xY+/_-=="})
			checkParse(t, "'"+s+"-SHA256-A'", api.Source{Kind: api.SourceHash, Port: -1, Text: sha + "-SHA256-A"})
			checkParse(t, "'"+s+"'", api.Source{Kind: api.SourceWord, Port: -1, Text: sha})
			refuse(t, "'"+s+"-'", "'"+s+"-='", "'"+s+"-=='", "'"+s+"-a==='", "'"+s+"-a=b'", "'"+s+"-=a'", "'"+s+"-a b'", "'"+s+"-a.b'", "'"+s+"-a", s+"-a'", "'"+s+"-é'")
		})
	}
	refuse(t, "'"+longS+"ha256-a'", "'sha256-a\x80'", "'sha255-a='", "'sha1-a='", "'md5-a='", "'sha-256-a='", "'sha256_a'", "'sha256=a'")
	checkKinds(t, api.SourceWord, map[string]string{
		"'sha1-a'": "sha1-a", "'sha224-A'": "sha224-a", "'sha2566-a'": "sha2566-a", "'sha25-a'": "sha25-a", "'sha-256-a'": "sha-256-a", "'sha-a'": "sha-a", "'asha256-a'": "asha256-a", "'-sha256-a'": "-sha256-a",
	})
}

// TestParseValues: each byte as a value, ahead of one, within and behind; and each number of signs at its end.
func TestParseValues(t *testing.T) {
	for _, begin := range []string{"'nonce-", "'sha256-", "'sha384-", "'sha512-"} {
		eachByte(func(c string) {
			is := strings.Contains(inData, c)
			for value, want := range map[string]bool{c: is, c + "a": is, "a" + c + "a": is, "a" + c: is || c == "=", c + "=": is, c + "==": is} {
				if _, ok := Parse(begin + value + "'"); ok != want {
					t.Errorf("Parse(%q): %t", begin+value+"'", ok)
				}
				checkWords(t, begin+value+"'")
			}
		})
		eachText([]string{"a", "=", "-"}, 6, func(s string) { checkWords(t, begin+s+"'") })
	}
}

func TestParseWord(t *testing.T) {
	checkKinds(t, api.SourceWord, map[string]string{
		"'a'": "a", "'Z'": "z", "'0'": "0", "'-'": "-", "'--'": "--", "'-a'": "-a", "'a-'": "a-", "'-a-'": "-a-", "'123'": "123",
		"'unsafe-inline'": "unsafe-inline", "'Unsafe-HASHES'": "unsafe-hashes", "'strict-dynamic'": "strict-dynamic", "'wasm-unsafe-eval'": "wasm-unsafe-eval",
		"'nonce'": "nonce", "'NONCE'": "nonce", "'nonces-a'": "nonces-a", "'anonce-a'": "anonce-a", "'-nonce-a'": "-nonce-a", "'non-ce-a'": "non-ce-a", "'sha256'": "sha256", "'Sha512a-b'": "sha512a-b",
		"'none-'": "none-", "'-none'": "-none", "'nones'": "nones", "'non'": "non", "'self-'": "self-", "'selfs'": "selfs", "'none-self'": "none-self",
		"'" + inWords + "'": small + small + digits + "-",
	})
	refuse(t, "'a b'", "'a_b'", "'a.b'", "'a+b'", "'a/b'", "'a='", "'a:'", "'*'", "'a'b'", "'é'", "'"+kelvin+"'", "'a\xff'", "'a\x00'")
	eachByte(func(c string) {
		for _, s := range []string{c, c + "a", "a" + c, "a" + c + "a"} {
			if _, ok := Parse("'" + s + "'"); ok != strings.Contains(inWords, c) {
				t.Errorf("Parse(%q): %t", "'"+s+"'", ok)
			}
		}
	})
}

func TestParseScheme(t *testing.T) {
	for s, scheme := range map[string]string{
		"a:": "a", "Z:": "z", "https:": "https", "HTTPS:": "https", "Data:": "data", "a+:": "a+", "a-:": "a-", "a.:": "a.", "a1:": "a1", "a+-.1Z:": "a+-.1z", "a.example:": "a.example", "none:": "none", "x--..++:": "x--..++",
		inNames + ":": small + small + digits + "+-.",
	} {
		checkParse(t, s, api.Source{Kind: api.SourceScheme, Port: -1, Scheme: scheme})
	}
	refuse(t, ":", "::", "1:", "1a:", "+:", "+a:", "-:", "-a:", ".:", ".a:", "*:", "a_b:", "a b:", "a::", " a:", "a :", "a: ", "a:\n", "é:", kelvin+":", "a\xff:", "a/:b:?", "https:a", "https:/", "https:/a", "https:///", "https:'")
	eachByte(func(c string) {
		_, first := Parse(c + "a:")
		_, later := Parse("a" + c + ":")
		if first != strings.Contains(letters, c) || later != (strings.Contains(inNames, c) || c == "/") {
			t.Errorf("%q: %t %t", c, first, later)
		}
	})
}

// TestParseSchemeOfHost: what stands ahead of :// is a scheme, or it is a host with a path, or nothing.
func TestParseSchemeOfHost(t *testing.T) {
	for _, scheme := range []string{"a", "Z", "https", "HTTP", "a+", "a-", "a.", "a1", "data", "x+-.9"} {
		checkParse(t, scheme+"://B", api.Source{Kind: api.SourceHost, Port: -1, Scheme: lowered(scheme), Host: "b"})
		checkParse(t, scheme+"://b/c://d", api.Source{Kind: api.SourceHost, Port: -1, Scheme: lowered(scheme), Host: "b", Path: "/c://d"})
		refuse(t, scheme+"://", scheme+":///", scheme+":///x", scheme+"://:80", scheme+"://b://c", scheme+":/b", scheme+":b", scheme+"://b:", scheme+"://'self'", scheme+"://'none'")
		checkParse(t, scheme+"://*", api.Source{Kind: api.SourceHost, Port: -1, Scheme: lowered(scheme), Host: "*"})
	}
	refuse(t, "://", "://a", "1://a", "1a://b", "-://a", "+a://b", ".a://b", "*://a", "a_b://c", "a b://c", "é://a", kelvin+"://a", "'://a", "a:80://b", "*.a://b", "https:// a", "a:://b", "::://b")
	checkParse(t, "a/://b", api.Source{Kind: api.SourceHost, Port: -1, Host: "a", Path: "/://b"})
	checkParse(t, "1/http://b", api.Source{Kind: api.SourceHost, Port: -1, Host: "1", Path: "/http://b"})
	checkParse(t, "a:1/b://c", api.Source{Kind: api.SourceHost, Port: 1, Host: "a", Path: "/b://c"})
}

func TestParseHost(t *testing.T) {
	for s, host := range map[string]string{
		"a": "a", "A": "a", "1": "1", "-": "-", "a.b": "a.b", "A.Example": "a.example", "a.b.c.d": "a.b.c.d", "-a.b-": "-a.b-", "1.2.3.4": "1.2.3.4", "0x7f.1": "0x7f.1", "xn--a": "xn--a",
		"*.a": "*.a", "*.A.B": "*.a.b", "*.1": "*.1", "*.-": "*.-", "*.a.b.c": "*.a.b.c", "localhost": "localhost", "none": "none", inWords: small + small + digits + "-",
	} {
		for _, scheme := range []string{"", "ws"} {
			ahead := scheme
			if scheme != "" {
				ahead += "://"
			}
			checkParse(t, ahead+s, api.Source{Kind: api.SourceHost, Port: -1, Scheme: scheme, Host: host})
			checkParse(t, ahead+s+":7", api.Source{Kind: api.SourceHost, Port: 7, Scheme: scheme, Host: host})
			checkParse(t, ahead+s+":*/x", api.Source{Kind: api.SourceHost, Port: -2, Scheme: scheme, Host: host, Path: "/x"})
			checkParse(t, ahead+s+"/", api.Source{Kind: api.SourceHost, Port: -1, Scheme: scheme, Host: host, Path: "/"})
		}
	}
	for _, s := range []string{".", "..", ".a", "a.", "a..b", "..a", "a..", "*.", "*..", "*..a", "*.a.", "*.a..b", "*a", "a*", "a*b", "*-", "**", "*.*", "*.*.a", "a.*", "a.*.b", "*.a.*", "**.a", ".*", ".*.a", "a_b", "_", "a b", "é", "a.é", kelvin, "\xff", "a.\x80", "a\x00", "[::1]", "[]", "[a]", "a]", "a@b", "a%41", "a+b", "a~b", "a\\b", "a,b", "a;b", "a?b", "a#b", "'a", "a=b"} {
		refuse(t, s, "ws://"+s, s+":7", s+":*", "ws://"+s+":7/x", s+"/", s+"/x/", "*."+s)
	}
	refuse(t, "/", "/x", ":80", ":*", "//a", "*.:80", "*./x", "a /x", "a\t")
}

// TestParseLabels: each byte alone, ahead of a letter, within and behind.
func TestParseLabels(t *testing.T) {
	eachByte(func(c string) {
		for _, s := range []string{"a.b." + c, "a" + c + "b.a", "*.a." + c + "a", "ws://b." + c, "ws://b.a" + c + "a/"} {
			checkWords(t, s)
			_, ok := Parse(s)
			// These part what is ahead of them from what is behind.
			if !strings.Contains(".:/", c) && ok != strings.Contains(inWords, c) {
				t.Errorf("Parse(%q): %t", s, ok)
			}
		}
	})
}

func TestParsePort(t *testing.T) {
	for text, port := range map[string]int{
		"*": -2, "0": 0, "00": 0, "00000": 0, "1": 1, "9": 9, "01": 1, "00001": 1, "00080": 80, "080": 80, "80": 80, "443": 443, "8080": 8080, "9999": 9999, "10000": 10000, "65534": 65534, "65535": 65535,
	} {
		checkParse(t, "a:"+text, api.Source{Kind: api.SourceHost, Port: port, Host: "a"})
		checkParse(t, "*:"+text, api.Source{Kind: api.SourceHost, Port: port, Host: "*"})
		checkParse(t, "ws://*.A:"+text+"/x:1", api.Source{Kind: api.SourceHost, Port: port, Scheme: "ws", Host: "*.a", Path: "/x:1"})
	}
	for _, text := range []string{"65536", "65537", "65540", "66000", "70000", "99999", "000000", "000080", "065535", "100000", "123456", "4294967376", "18446744073709551696", "-1", "-2", "+1", "1a", "a", "a1", "0x1", "1.", "1.0", " 1", "1 ", "1:", ":1", "1:1", "**", "*1", "1*", "*:", ":*", "%31", "é", "\uff11", "\xff", "1\x00", "1_0", "'", "1'", "1\n"} {
		refuse(t, "a:"+text, "*:"+text, "ws://*.a:"+text, "a.b:"+text+"/", "a:"+text+"/x")
	}
	refuse(t, "*:", "ws://a:", "*.a:", "a:/", "a:/x", "ws://a:/x", "*:/", "1:")
	for port := range 65536 + 1000 {
		got, ok := Parse("a:" + strconv.Itoa(port))
		if ok != (port <= 65535) || ok && got.Port != port {
			t.Fatalf("%d: %+v %t", port, got, ok)
		}
	}
}

func TestParsePath(t *testing.T) {
	for _, path := range []string{"/", "//", "///", "/x", "/x/", "/X/yZ", "/a:b", "/:", "/:80", "/*", "/%20%zz%", "/..", "/.", "/'", "/a'b'", "/\"", "/[::1]", "/@", "/=&$!~+()|\\^`{}<>", "/a://b", "/-_."} {
		checkParse(t, "a"+path, api.Source{Kind: api.SourceHost, Port: -1, Host: "a", Path: path})
		checkParse(t, "*"+path, api.Source{Kind: api.SourceHost, Port: -1, Host: "*", Path: path})
		checkParse(t, "HTTP://*.B:1"+path, api.Source{Kind: api.SourceHost, Port: 1, Scheme: "http", Host: "*.b", Path: path})
	}
	refuse(t, "a/?", "a/x?y", "a/#", "a/x#y", "a/;", "a/x;y", "a/,", "a/x,y", "a/ ", "a/x y", "a/\t", "a/x\n", "a/\x7f", "a/\x80", "a/é", "a/\xff", "a/\x00", "a/x ", "a/\x1f", "a/\u2028")
	eachByte(func(c string) {
		is := c[0] > 0x20 && c[0] < 0x7F && c != "?" && c != "#" && c != ";" && c != ","
		for _, path := range []string{"/" + c, "/" + c + "x", "/x" + c, "/x" + c + "x", "/x/" + c} {
			want := api.Source{Kind: api.SourceHost, Port: -1, Host: "a", Path: path}
			if !is {
				want = api.Source{}
			}
			if got, ok := Parse("a" + path); got != want || ok != is {
				t.Errorf("Parse(%q): %+v %t", "a"+path, got, ok)
			}
		}
	})
}

// TestParseNear: what is a source with a byte less or more, or another one.
func TestParseNear(t *testing.T) {
	for _, s := range []string{"*", "'none'", "'self'", "'nonce-aB='", "'nonce-a=='", "'sha256-xY='", "'sha384-a=='", "'SHA512-+'", "'unsafe-inline'", "https:", "a:", "a.example", "*.a.b", "*:*", "https://*.a.b:8443/x/y", "ws://*", "a:65535", "a/", "A://B:0/C"} {
		checkWords(t, s)
		eachNear(s, func(s string) { checkWords(t, s) })
		if len(s) < 10 {
			eachNear(s, func(s string) { eachNear(s, func(s string) { checkWords(t, s) }) })
		}
	}
}

// TestParseBytes: all texts of two bytes, alone and where they stand in a source.
func TestParseBytes(t *testing.T) {
	for a := range 256 {
		for b := range 256 {
			two := one(a) + one(b)
			for _, s := range []string{two, "'" + two + "'", "'" + two, "a" + two, two + "a", two + "//a", "a:" + two, "a/" + two, "'nonce-" + two + "'", "*" + two, "a" + one(a) + "b" + one(b)} {
				checkWords(t, s)
			}
		}
	}
}

func TestParseShortTexts(t *testing.T) {
	do := func(s string) { checkWords(t, s) }
	eachText(strings.Split("'*.:/aZ1-=", ""), 6, do)
	eachText([]string{"'", "none", "SELF", "nonce", "Sha256", "sha1", "-", "=", "+", "a"}, 5, do)
	eachText([]string{"http", "://", "*.", "*", "a", ".", ":", "80", "/", "%2F", "?"}, 5, do)
}

// TestParseLong: a source may be as long as it will.
func TestParseLong(t *testing.T) {
	many := strings.Repeat("a", 1<<20)
	dots := strings.Repeat("a.", 1<<19)
	for s, want := range map[string]api.Source{
		"'nonce-" + many + "=='":                 {Kind: api.SourceNonce, Port: -1, Text: many + "=="},
		"'SHA384-" + many + "'":                  {Kind: api.SourceHash, Port: -1, Text: "sha384-" + many},
		"'" + strings.ToUpper(many) + "'":        {Kind: api.SourceWord, Port: -1, Text: many},
		many + ":":                               {Kind: api.SourceScheme, Port: -1, Scheme: many},
		many + "://*." + many + ":00001/" + many: {Kind: api.SourceHost, Port: 1, Scheme: many, Host: "*." + many, Path: "/" + many},
		dots + "b":                               {Kind: api.SourceHost, Port: -1, Host: dots + "b"},
	} {
		if got, ok := Parse(s); got != want || !ok {
			t.Errorf("%.9s, and so on: kind %d, %t", s, got.Kind, ok)
		}
	}
	for _, s := range []string{
		dots, "*." + dots, many + ":" + many, "a:" + strings.Repeat("0", 1<<20), "'nonce-" + many + "==='", "'" + many + " '", many + "?", "a/" + many + ";", strings.Repeat("=", 1<<20), strings.Repeat("'", 1<<20),
	} {
		if got, ok := Parse(s); got != (api.Source{}) || ok {
			t.Errorf("%.9s, and so on: kind %d, %t", s, got.Kind, ok)
		}
	}
}

func TestTextOfEachKind(t *testing.T) {
	full := api.Source{Scheme: "https", Host: "*.A.b", Port: 8443, Path: "/x", Text: "aB="}
	for kind, want := range map[int]string{
		api.SourceNone: "'none'", api.SourceAny: "*", api.SourceScheme: "https:", api.SourceHost: "https://*.A.b:8443/x", api.SourceSelf: "'self'", api.SourceNonce: "'nonce-aB='", api.SourceHash: "'aB='", api.SourceWord: "'aB='",
		-1: "", 8: "", 9: "", 1000: "", -1 << 63: "", 1<<63 - 1: "",
	} {
		x := full
		x.Kind = kind
		if got := Text(x); got != want {
			t.Errorf("Text(%+v): %q, want %q", x, got, want)
		}
	}
	for kind, want := range map[int]string{api.SourceNone: "'none'", api.SourceAny: "*", api.SourceScheme: ":", api.SourceHost: ":0", api.SourceSelf: "'self'", api.SourceNonce: "'nonce-'", api.SourceHash: "''", api.SourceWord: "''"} {
		if got := Text(api.Source{Kind: kind}); got != want {
			t.Errorf("Text of an empty one of kind %d: %q, want %q", kind, got, want)
		}
	}
}

func TestTextOfHosts(t *testing.T) {
	for port, want := range map[int]string{
		-2: ":*", -1: "", -3: "", -80: "", -1 << 63: "", 0: ":0", 1: ":1", 80: ":80", 443: ":443", 65535: ":65535", 65536: ":65536", 1<<63 - 1: ":9223372036854775807",
	} {
		for _, x := range []api.Source{{Host: "a"}, {Scheme: "ws", Host: "*"}, {Host: "*.b", Path: "/x/"}, {Scheme: "A", Host: "B", Path: "/"}, {}} {
			ahead := ""
			if x.Scheme != "" {
				ahead = x.Scheme + "://"
			}
			x.Kind, x.Port, x.Text = api.SourceHost, port, "text"
			if got := Text(x); got != ahead+x.Host+want+x.Path {
				t.Errorf("Text(%+v): %q", x, got)
			}
		}
	}
}

// TestTextParsed: what is written of what was parsed, with letters made small and noughts left out.
func TestTextParsed(t *testing.T) {
	for s, want := range map[string]string{
		"*": "*", "'NONE'": "'none'", "'Self'": "'self'", "'Nonce-aB=='": "'nonce-aB=='", "'SHA256-aB'": "'sha256-aB'", "'Unsafe-Eval'": "'unsafe-eval'", "HTTPS:": "https:", "A.B": "a.b", "A://*.B:00001/C": "a://*.b:1/C", "*:*": "*:*", "a:00000/": "a:0/", "*/%41": "*/%41",
	} {
		if got := Text(source(t, s)); got != want {
			t.Errorf("Text of %q: %q, want %q", s, got, want)
		}
		checkWords(t, s)
		checkWords(t, want)
	}
}

// M2.

func TestMatchExample(t *testing.T) {
	checkMatch(t, "https://*.a.example/x/", "https://s/", []string{"https://b.a.example/x/y"}, []string{"https://a.example/x/y"})
}

// TestSchemesTogether: each two schemes, of a source of a scheme, of a host, and of a host without one.
func TestSchemesTogether(t *testing.T) {
	table := map[string]string{"http": "http https", "https": "https", "ws": "ws wss http https", "wss": "wss https", "data": "data", "blob": "blob", "about": "about", "ftp": "ftp", "httpx": "httpx", "HTTP": "HTTP", "": ""}
	for _, a := range schemes {
		for _, b := range schemes {
			want := slices.Contains(strings.Split(table[a], " "), b)
			u := api.URL{Scheme: b, Host: "h", Port: -1, Path: "/"}
			other := api.URL{Scheme: "x", Host: "h", Port: -1, Path: "/"}
			if got := Match(api.Source{Kind: api.SourceScheme, Scheme: a, Port: -1}, u, other, false); got != want {
				t.Errorf("%s: with %s: %t", a, b, got)
			}
			host := api.Source{Kind: api.SourceHost, Scheme: a, Host: "h", Port: -1}
			if got := Match(host, u, other, false); a != "" && got != want {
				t.Errorf("%s://h with %s: %t", a, b, got)
			}
			host.Scheme, other.Scheme = "", a
			if got := Match(host, u, other, false); got != want {
				t.Errorf("h of a page of %s with %s: %t", a, b, got)
			}
		}
	}
}

// TestMatchScheme: by the scheme alone, whatever else is.
func TestMatchScheme(t *testing.T) {
	checkMatch(t, "https:", "http://s/", []string{"https://a/", "https://1.2.3.4:8/x", "https://[::1]/"}, []string{"http://a/", "ws://a/", "wss://a/", "data:x", "http://s/"})
	checkMatch(t, "data:", "http://s/", []string{"data:", "data:x/y?z#f"}, []string{"blob:x", "about:blank", "http://data/"})
	checkMatch(t, "x:", "data:s", nil, []string{"data:x", "http://x/"})
	x := api.Source{Kind: api.SourceScheme, Scheme: "http", Host: "a", Port: 7, Path: "/x", Text: "t"}
	if !Match(x, url(t, "https://b:9/y"), url(t, "data:x"), false) || !Match(x, url(t, "http://b/"), api.URL{}, true) {
		t.Errorf("%+v", x)
	}
}

func TestMatchAny(t *testing.T) {
	for _, b := range schemes {
		for _, c := range schemes {
			want := b == "http" || b == "https" || b == c
			for _, name := range []string{"", "h", "1.2.3.4"} {
				u := api.URL{Scheme: b, Host: name, Port: 7, Path: "/"}
				self := api.URL{Scheme: c, Host: "s", Port: -1}
				if got := Match(api.Source{Kind: api.SourceAny, Port: -1}, u, self, false); got != want {
					t.Errorf("%+v of %+v: %t", u, self, got)
				}
			}
		}
	}
	checkMatch(t, "*", "https://s/", []string{"http://a/", "https://a:8/x", "http://1.2.3.4/", "http://[::1]/"}, []string{"ws://a/", "wss://s/", "data:x", "blob:https://s/", "about:blank"})
	checkMatch(t, "*", "wss://s/", []string{"http://a/", "wss://a/"}, []string{"ws://s/", "data:x"})
	checkMatch(t, "*", "data:x", []string{"http://a/", "data:y"}, []string{"blob:x", "about:x", "ws://a/"})
}

func TestMatchSelf(t *testing.T) {
	checkMatch(t, "'self'", "http://a/x", []string{"http://a/", "http://a/y?z", "https://a/", "ws://a/", "wss://a/"}, []string{"http://b/", "https://b/", "http://x.a/", "http://a:81/", "https://a:80/", "ws://a:81/", "data:x", "http://a./"})
	checkMatch(t, "'self'", "https://a/", []string{"https://a/x", "wss://a/"}, []string{"http://a/", "ws://a/", "https://a:444/", "wss://a:80/", "https://b/"})
	checkMatch(t, "'self'", "http://a:81/", []string{"http://a:81/", "https://a:81/", "ws://a:81/", "wss://a:81/"}, []string{"http://a/", "https://a/", "https://a:82/", "wss://a/"})
	checkMatch(t, "'self'", "ws://a/", []string{"ws://a/", "https://a/", "wss://a/"}, []string{"http://a/", "ws://b/"})
	checkMatch(t, "'self'", "wss://a/", []string{"wss://a/", "https://a/"}, []string{"http://a/", "ws://a/"})
	checkMatch(t, "'self'", "http://1.2.3.4/", []string{"http://1.2.3.4/", "https://1.2.3.4/"}, []string{"http://1.2.3.5/"})
	checkMatch(t, "'self'", "https://[::1]:8/", []string{"https://[::1]:8/", "wss://[::1]:8/"}, []string{"https://[::2]:8/", "http://[::1]:8/"})
	for _, opaque := range []string{"data:x", "blob:http://a/", "about:blank"} {
		checkMatch(t, "'self'", opaque, nil, []string{opaque, "data:x", "blob:http://a/", "about:blank", "http://a/", "https://a/"})
	}
}

// TestMatchSelfEach: each scheme of the page with each of the URL, at hosts and ports that are the same or not.
func TestMatchSelfEach(t *testing.T) {
	urls := []api.URL{}
	for _, scheme := range schemes {
		for _, name := range []string{"", "a", "b", "A", "1.2.3.4"} {
			for _, port := range []int{-1, -2, 0, 80, 443} {
				urls = append(urls, api.URL{Scheme: scheme, Host: name, Port: port, Path: "/" + scheme})
			}
		}
	}
	checkAll(t, []api.Source{{Kind: api.SourceSelf, Port: -1}, {Kind: api.SourceSelf, Scheme: "http", Host: "b", Port: 80, Path: "/x"}}, urls, urls)
}

func TestMatchHost(t *testing.T) {
	for host, u := range map[string][2]string{
		"a":       {"a", "b aa A a. .a a.a x.a a.b 1 1.2.3.4 [::1] *"},
		"a.b":     {"a.b", "b a x.a.b a.b. ab a.bb aa.b a.B"},
		"*":       {"a a.b a.b.c * *.a a. x-y 1a 0xg -", "1 1.2.3.4 0 0x 0x7f a.1 a.0x1 1. a.1. [::1] [ []"},
		"*.b":     {"a.b x.a.b ..b *.b -.b 1.b a..b", "b .b ab aab a.bb a.b. b.a a.b.c x.B 1.2.3.4 [::b]"},
		"*.a.b":   {"x.a.b y.x.a.b .a.a.b", "a.b .a.b xa.b b x.b x.a.bb a.b.a.b. A.a.B"},
		"*.1":     {"", "a.1 x.a.1 1 .1 1.1.1.1"},
		"1.2.3.4": {"", "1.2.3.4 a"},
		"[::1]":   {"", "[::1] a"},
		"*.":      {"a. a.b. ..", ". a *"},
		"":        {"", "a 1"},
		"**":      {"**", "a *a *"},
		"*b":      {"*b", "b ab a.b"},
		"a.*":     {"a.*", "a.b a. a"},
	} {
		x := api.Source{Kind: api.SourceHost, Host: host, Port: -1}
		for at, want := range []bool{true, false} {
			for _, name := range strings.Fields(u[at]) {
				got := api.URL{Scheme: "http", Host: name, Port: -1, Path: "/"}
				if Match(x, got, api.URL{Scheme: "http", Port: -1}, false) != want {
					t.Errorf("%s with %s: %t", host, name, !want)
				}
			}
		}
		if Match(x, api.URL{Scheme: "http", Port: -1, Path: "/"}, api.URL{Scheme: "http", Port: -1}, true) {
			t.Errorf("%s with no host", host)
		}
	}
	checkMatch(t, "*", "data:x", []string{"data:y", "http://1.2.3.4/"}, nil)
	checkMatch(t, "data://*", "data:x", nil, []string{"data:y", "http://a/"})
	checkMatch(t, "*:*", "data:x", nil, []string{"data:y", "about:blank", "http://a/"})
	checkMatch(t, "http://*:*", "data:x", []string{"http://a/", "https://a.b:8/"}, []string{"http://1.2.3.4/", "http://[::1]/", "ws://a/"})
}

func TestMatchHostScheme(t *testing.T) {
	checkMatch(t, "a", "http://s/", []string{"http://a/", "https://a/"}, []string{"ws://a/", "wss://a/", "http://b/"})
	checkMatch(t, "a", "https://s/", []string{"https://a/"}, []string{"http://a/", "wss://a/"})
	checkMatch(t, "a", "ws://s/", []string{"ws://a/", "wss://a/", "http://a/", "https://a/"}, []string{"ws://b/"})
	checkMatch(t, "a", "data:s", nil, []string{"http://a/", "https://a/", "ws://a/"})
	checkMatch(t, "wss://a", "http://s/", []string{"wss://a/", "https://a/"}, []string{"ws://a/", "http://a/"})
	checkMatch(t, "http://a", "https://s/", []string{"http://a/", "https://a/"}, []string{"ws://a/"})
	checkMatch(t, "x://a", "http://s/", nil, []string{"http://a/", "https://a/"})
}

func TestMatchPort(t *testing.T) {
	checkMatch(t, "a", "http://s/", []string{"http://a/", "http://a:80/", "https://a:443/", "https://a/"}, []string{"http://a:81/", "http://a:443/", "https://a:80/", "http://a:0/"})
	checkMatch(t, "a:80", "http://s/", []string{"http://a/", "http://a:80/", "https://a:80/"}, []string{"https://a/", "http://a:443/", "http://a:8/"})
	checkMatch(t, "a:443", "http://s/", []string{"https://a/", "https://a:443/", "http://a:443/"}, []string{"http://a/", "https://a:80/"})
	checkMatch(t, "ws://a:80", "http://s/", []string{"ws://a/", "http://a/", "wss://a:80/"}, []string{"wss://a/", "https://a/"})
	checkMatch(t, "wss://a:443", "http://s/", []string{"wss://a/", "https://a/"}, []string{"wss://a:80/", "https://a:444/"})
	checkMatch(t, "a:8080", "http://s/", []string{"http://a:8080/", "https://a:8080/"}, []string{"http://a/", "http://a:8081/", "http://a:80/"})
	checkMatch(t, "a:0", "http://s/", []string{"http://a:0/"}, []string{"http://a/", "https://a/", "http://a:1/"})
	checkMatch(t, "a:*", "http://s/", []string{"http://a/", "http://a:0/", "http://a:65535/", "https://a:80/"}, []string{"http://b:80/"})
}

// TestMatchPorts: each port of a source with each of a URL, of each scheme.
func TestMatchPorts(t *testing.T) {
	ports := []int{-4, -3, -2, -1, 0, 1, 79, 80, 81, 442, 443, 444, 8080, 65535, 65536}
	for _, scheme := range schemes {
		sources, urls := []api.Source{}, []api.URL{}
		for _, port := range ports {
			sources = append(sources, api.Source{Kind: api.SourceHost, Scheme: scheme, Host: "a", Port: port})
			urls = append(urls, api.URL{Scheme: scheme, Host: "a", Port: port, Path: "/"})
		}
		checkAll(t, sources, urls, []api.URL{{Scheme: scheme, Host: "s", Port: 80}})
	}
}

func TestMatchPath(t *testing.T) {
	for path, u := range map[string][2]string{
		"":             {"/ /x /x/y //", ""},
		"/":            {"/ /x /x/y // /x/ ///", ""},
		"/x":           {"/x /%78", "/ /x/ /X /x/y /xy /y //x /x// /%58 /%2578"},
		"/x/":          {"/x/ /x/y /x/y/z /x// /%78/y", "/ /x /xy/ /X/ /y/x/ //x/ /x%2F /x%2Fy"},
		"/x/y":         {"/x/y /x/%79", "/x /x/ /x/y/ /x//y /x/y/z /y/x /x/Y"},
		"/x//":         {"/x// /x//y /x//y/z /x///", "/x /x/ /x/y /x/y/"},
		"/x//y":        {"/x//y", "/x/y /x///y /x//y/ /x/z/y"},
		"//":           {"// //x //x/y ///", "/ /x /x/"},
		"/%78":         {"/x /%78", "/%2578 /X /%58 /78"},
		"/%2578":       {"/%2578", "/x /%78 /%252578"},
		"/a%2Fb":       {"/a%2Fb /a%2fb", "/a/b /a%252Fb"},
		"/a%2F":        {"/a%2F /a%2f", "/a/ /a /a%2Fb /a/b"},
		"/a/b":         {"/a/b /%61/%62", "/a%2Fb /a%2fb"},
		"/%":           {"/% /%25", "/%% /%2525"},
		"/%zz":         {"/%zz /%25zz", "/zz"},
		"/%c3%a9":      {"/%C3%A9 /%c3%a9", "/%C3 /%E9"},
		"/x;a":         {"/x;a /x%3Ba", "/x"},
		"/%3F%23%2C":   {"/%3f%23, /%3F%23%2c", "/"},
		"/x/%2E%2E/":   {"/x/%2e%2e/ /x/../y", "/ /x/"},
		"x":            {"x %78", "/x"},
		"x/":           {"x/ x/y", "x /x/"},
		"/a/b/c/d/e/":  {"/a/b/c/d/e/ /a/b/c/d/e/f", "/a/b/c/d/e /a/b/c/d/ /a/b/c/d/f/ /b/b/c/d/e/"},
		"/a/b/c/d/e/f": {"/a/b/c/d/e/f", "/a/b/c/d/e/g /b/b/c/d/e/f /a/b/c/d/f/f /a/b/x/d/e/f"},
	} {
		x := api.Source{Kind: api.SourceHost, Host: "a", Port: -1, Path: path}
		for at, want := range []bool{true, false} {
			for _, got := range strings.Fields(u[at]) {
				checkPath(t, x, got, want)
			}
		}
	}
	checkPath(t, api.Source{Host: "a", Port: -1}, "", true)
	checkPath(t, api.Source{Host: "a", Port: -1, Path: "/"}, "", false)
	checkPath(t, api.Source{Host: "a", Port: -1, Path: "/x"}, "", false)
	checkPath(t, api.Source{Host: "a", Port: -1, Path: "/ x"}, "/%20x", true)
}

// checkPath: a source's path lets a URL's through, or not; behind a redirect it does.
func checkPath(t *testing.T, x api.Source, path string, want bool) {
	t.Helper()
	x.Kind = api.SourceHost
	u, self := api.URL{Scheme: "http", Host: "a", Port: -1, Path: path}, api.URL{Scheme: "http", Host: "s", Port: -1}
	if Match(x, u, self, false) != want {
		t.Errorf("%q with %q: %t", x.Path, path, !want)
	}
	if !Match(x, u, self, true) {
		t.Errorf("%q with %q, redirected", x.Path, path)
	}
}

// TestMatchPaths: each short path of a source with each of a URL.
func TestMatchPaths(t *testing.T) {
	sources, urls := []api.Source{}, []api.URL{}
	eachText([]string{"/", "a", "%61", "%2F", "%"}, 4, func(s string) {
		sources = append(sources, api.Source{Kind: api.SourceHost, Host: "a", Port: -1, Path: s})
		urls = append(urls, api.URL{Scheme: "http", Host: "a", Port: -1, Path: s})
	})
	checkAll(t, sources, urls, []api.URL{{Scheme: "http", Host: "s", Port: -1}})
}

// TestMatchHosts: each short host of a source with each of a URL.
func TestMatchHosts(t *testing.T) {
	sources, urls := []api.Source{}, []api.URL{}
	eachText([]string{"*", ".", "a", "1", "["}, 4, func(s string) {
		sources = append(sources, api.Source{Kind: api.SourceHost, Host: s, Port: -1})
		urls = append(urls, api.URL{Scheme: "http", Host: s, Port: -1, Path: "/"})
	})
	checkAll(t, sources, urls, []api.URL{{Scheme: "http", Host: "s", Port: -1}})
}

// TestRedirected: the path alone does not count behind a redirect.
func TestRedirected(t *testing.T) {
	self := url(t, "http://s/")
	for s, u := range map[string][2]string{
		"a/x":              {"http://a/y", "http://b/x"},
		"a/x/":             {"http://a/x", "http://a:8/x/"},
		"https://*.a:8/x/": {"https://b.a:8/", "http://b.a:8/x/"},
		"http://*/x":       {"https://b/", "http://1.2.3.4/x"},
		"a:80/x/y":         {"http://a/", "https://a/x/y"},
		"*":                {"http://a/", "data:x"},
		"ws:":              {"https://a/", "data:x"},
		"'self'":           {"https://s/x", "http://a/"},
	} {
		if !Match(source(t, s), url(t, u[0]), self, true) || Match(source(t, s), url(t, u[1]), self, true) {
			t.Errorf("%s: %s %s", s, u[0], u[1])
		}
	}
}

// TestMatchNothing: kinds that let nothing through, whatever else they have.
func TestMatchNothing(t *testing.T) {
	u := url(t, "http://a/x")
	for _, kind := range []int{api.SourceNone, api.SourceNonce, api.SourceHash, api.SourceWord, -1, 8, 9, 100, -1 << 63, 1<<63 - 1} {
		for _, redirected := range []bool{false, true} {
			if Match(api.Source{Kind: kind, Scheme: "http", Host: "a", Port: -1, Path: "/x", Text: "x"}, u, u, redirected) || Match(api.Source{Kind: kind}, api.URL{}, api.URL{}, redirected) {
				t.Errorf("kind %d", kind)
			}
		}
	}
	for _, s := range []string{"'none'", "'nonce-x'", "'sha256-x'", "'unsafe-inline'", "'a'"} {
		checkMatch(t, s, "http://a/", nil, []string{"http://a/", "https://a/x", "data:x"})
	}
}

// TestMatchWords: each of these sources with each of the URLs and of the pages.
func TestMatchWords(t *testing.T) {
	sources, urls := []api.Source{{}}, []api.URL{{}}
	for _, s := range strings.Fields("* 'none' 'self' 'nonce-a' 'sha256-a' 'a' http: https: ws: wss: data: blob: about: x: a *.a *:* https://a ws://*.a wss://* data://a a:80 a:443 a:81 http://a:80 wss://a:443 ws://a:* a/ a/x a/x/ *.a/x/y 1.2.3.4 *:81/x") {
		sources = append(sources, source(t, s))
	}
	for _, s := range strings.Fields("http://a/ https://a/x ws://a/x/ wss://a/x/y http://b.a/x/y https://a:81/ https://a:80/x http://a:443/ wss://a:80/ http://1.2.3.4/ https://[::1]/ ws://b.a:81/x data:x blob:x about:blank http://a./ http://ba/ https://c.b.a/x/y/z") {
		urls = append(urls, url(t, s))
	}
	checkAll(t, sources, urls, urls)
}

// TestMatchLong: a source and a URL may be as long as they will.
func TestMatchLong(t *testing.T) {
	parts, host := strings.Repeat("/a", 1<<19), strings.Repeat("a.", 1<<19)
	self := url(t, "http://s/")
	x := api.Source{Kind: api.SourceHost, Host: "*." + host + "b", Port: -1, Path: parts + "/"}
	u := api.URL{Scheme: "http", Host: "c." + host + "b", Port: -1, Path: parts + "/x"}
	if !Match(x, u, self, false) {
		t.Errorf("a long one")
	}
	u.Path = parts
	if Match(x, u, self, false) || !Match(x, u, self, true) {
		t.Errorf("a long path that is too short")
	}
	u.Path, u.Host = parts+"/x", host+"b"
	if Match(x, u, self, false) {
		t.Errorf("a long host that is too short")
	}
}

// Of the whole.

// TestHandedIn: what was handed in stays as it was, and the same calls have the same answers.
func TestHandedIn(t *testing.T) {
	bytes := []byte("HTTPS://*.A.Example:08443/X/%78/")
	x, ok := Parse(string(bytes))
	again, _ := Parse(string(bytes))
	if string(bytes) != "HTTPS://*.A.Example:08443/X/%78/" || x != again || !ok {
		t.Errorf("%s %+v %+v", bytes, x, again)
	}
	u, self := url(t, "https://b.a.example:8443/X/x/y?q#f"), url(t, "http://s/")
	keptX, keptU, keptSelf := x, u, self
	for range 3 {
		if !Match(x, u, self, false) || Text(x) != "https://*.a.example:8443/X/%78/" {
			t.Errorf("another answer")
		}
		refuse(t, "a b", "'")
		Match(api.Source{}, self, u, true)
	}
	if x != keptX || u != keptU || self != keptSelf {
		t.Errorf("%+v %+v %+v", x, u, self)
	}
}
