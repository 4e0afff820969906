package weburl

import (
	"fmt"
	"math"
	"regexp"
	"strconv"
	"strings"
	"testing"

	"transept/api"
	"transept/host"
	"transept/percent"
)

// What the chapter's words say of a text's parts.
var (
	endsForm     = regexp.MustCompile(`^[\x00-\x20]+|[\x00-\x20]+$`)
	strewnForm   = regexp.MustCompile(`[\t\n\r]`)
	urlForm      = regexp.MustCompile(`(?s)^([A-Za-z][A-Za-z0-9+.-]*):([^?#]*)(?:\?([^#]*))?(?:#(.*))?$`)
	specialForm  = regexp.MustCompile(`(?s)^//([^/@]*)(?:/(.*))?$`)
	bracketsForm = regexp.MustCompile(`\[[^\]]*\]`)
	portForm     = regexp.MustCompile(`^0*([0-9]{0,5})$`)
	oneForm      = regexp.MustCompile(`^(\.|%2e|%2E)$`)
	twoForm      = regexp.MustCompile(`^(\.|%2e|%2E){2}$`)
)

// The default ports, by the chapter's words.
var defaultPorts = map[string]int{"http": 80, "ws": 80, "https": 443, "wss": 443}

// answer is all that Parse answers.
type answer struct {
	u api.URL
	e api.Errno
}

var wrong = answer{api.URL{}, api.ErrURL}

func right(u api.URL) answer { return answer{u, api.OK} }

func ask(s string) answer {
	u, e := Parse(s)
	return answer{u, e}
}

func check(t *testing.T, s string, want answer) {
	t.Helper()
	if got := ask(s); got != want {
		t.Errorf("Parse(%q): %+v, want %+v", s, got, want)
	}
}

// checkText: s is a URL that is written so, and what is written so is right.
func checkText(t *testing.T, s, want string) {
	t.Helper()
	u, e := Parse(s)
	if e != api.OK || Text(u) != want {
		t.Errorf("Parse(%q): %+v, %v, which is %q, want %q", s, u, e, Text(u), want)
	}
	checkRight(t, u)
}

func checkWrong(t *testing.T, texts ...string) {
	t.Helper()
	for _, s := range texts {
		check(t, s, wrong)
	}
}

// checkRight: u is right, and its text is parsed as it is, into itself.
func checkRight(t *testing.T, u api.URL) {
	t.Helper()
	if !Right(u) {
		t.Errorf("%+v is not right", u)
	}
	check(t, Text(u), right(u))
}

// parse is a URL that must be one.
func parse(t *testing.T, s string) api.URL {
	t.Helper()
	u, e := Parse(s)
	if e != api.OK {
		t.Fatalf("Parse(%q): %v", s, e)
	}
	return u
}

// wordsParse is Parse as the chapter's words tell it.
func wordsParse(s string) answer {
	s = strewnForm.ReplaceAllString(endsForm.ReplaceAllString(s, ""), "")
	at := urlForm.FindStringSubmatchIndex(s)
	if at == nil {
		return wrong
	}
	group := func(i int) string {
		if at[2*i] < 0 {
			return ""
		}
		return s[at[2*i]:at[2*i+1]]
	}
	u := api.URL{Scheme: strings.ToLower(group(1)), Port: -1}
	set := percent.Special
	switch u.Scheme {
	case "data", "blob", "about":
		set = percent.Query
		u.Path = percent.Encode(percent.C0, group(2))
	case "http", "https", "ws", "wss":
		if !wordsSpecial(&u, strings.ReplaceAll(group(2), "\\", "/")) {
			return wrong
		}
	default:
		return wrong
	}
	if at[6] >= 0 {
		u.Query = "?" + percent.Encode(set, group(3))
	}
	if at[8] >= 0 {
		u.Fragment = "#" + percent.Encode(percent.Fragment, group(4))
	}
	return right(u)
}

// wordsSpecial fills in what the rest of a special URL tells, and tells whether it may be.
func wordsSpecial(u *api.URL, rest string) bool {
	m := specialForm.FindStringSubmatch(rest)
	if m == nil {
		return false
	}
	masked := bracketsForm.ReplaceAllStringFunc(m[1], func(b string) string { return strings.Repeat("x", len(b)) })
	name, digits := m[1], ""
	if at := strings.Index(masked, ":"); at >= 0 {
		name, digits = m[1][:at], m[1][at+1:]
	}
	p := portForm.FindStringSubmatch(digits)
	written, e := host.Parse(name)
	if p == nil || e != api.OK {
		return false
	}
	u.Host, u.Path = written, wordsPath(m[2])
	if digits != "" {
		n, _ := strconv.Atoi("0" + p[1])
		if n > 65535 {
			return false
		}
		if n != defaultPorts[u.Scheme] {
			u.Port = n
		}
	}
	return true
}

// wordsPath goes through the parts from behind: two dots skip the next part that is none.
func wordsPath(s string) string {
	parts := strings.Split(s, "/")
	last := parts[len(parts)-1]
	path := ""
	if oneForm.MatchString(last) || twoForm.MatchString(last) {
		path = "/"
	}
	skip := 0
	for i := len(parts) - 1; i >= 0; i-- {
		switch {
		case oneForm.MatchString(parts[i]):
		case twoForm.MatchString(parts[i]):
			skip++
		case skip > 0:
			skip--
		default:
			path = "/" + percent.Encode(percent.Path, parts[i]) + path
		}
	}
	if path == "" {
		return "/"
	}
	return path
}

// eachJoin hands all texts of at most size of these pieces to do, behind a beginning.
func eachJoin(start string, pieces []string, size int, do func(s string)) {
	do(start)
	if size == 0 {
		return
	}
	for _, p := range pieces {
		eachJoin(start+p, pieces, size-1, do)
	}
}

// H1.

func TestParseFields(t *testing.T) {
	for s, want := range map[string]api.URL{
		"HTTP://EXAMPLE.com:80/a/../b?x#y":   {Scheme: "http", Host: "example.com", Port: -1, Path: "/b", Query: "?x", Fragment: "#y"},
		"http://a":                           {Scheme: "http", Host: "a", Port: -1, Path: "/"},
		"http://a/":                          {Scheme: "http", Host: "a", Port: -1, Path: "/"},
		"http://a:8080":                      {Scheme: "http", Host: "a", Port: 8080, Path: "/"},
		"http://a:8080?q":                    {Scheme: "http", Host: "a", Port: 8080, Path: "/", Query: "?q"},
		"http://a?q":                         {Scheme: "http", Host: "a", Port: -1, Path: "/", Query: "?q"},
		"http://a#f":                         {Scheme: "http", Host: "a", Port: -1, Path: "/", Fragment: "#f"},
		"https://a.example/x/y?q=1#f":        {Scheme: "https", Host: "a.example", Port: -1, Path: "/x/y", Query: "?q=1", Fragment: "#f"},
		"https://a.example:8443/x/y?q=1#f":   {Scheme: "https", Host: "a.example", Port: 8443, Path: "/x/y", Query: "?q=1", Fragment: "#f"},
		"https://a.example:443":              {Scheme: "https", Host: "a.example", Port: -1, Path: "/"},
		"ws://b/chat":                        {Scheme: "ws", Host: "b", Port: -1, Path: "/chat"},
		"ws://b:81/chat?r#s":                 {Scheme: "ws", Host: "b", Port: 81, Path: "/chat", Query: "?r", Fragment: "#s"},
		"wss://b/chat":                       {Scheme: "wss", Host: "b", Port: -1, Path: "/chat"},
		"wss://b:444/chat#s":                 {Scheme: "wss", Host: "b", Port: 444, Path: "/chat", Fragment: "#s"},
		"http://[0:0::1]:81/":                {Scheme: "http", Host: "[::1]", Port: 81, Path: "/"},
		"http://0x7f.1/":                     {Scheme: "http", Host: "127.0.0.1", Port: -1, Path: "/"},
		"http://%41.b":                       {Scheme: "http", Host: "a.b", Port: -1, Path: "/"},
		"data:text/plain,x?y#z":              {Scheme: "data", Port: -1, Path: "text/plain,x", Query: "?y", Fragment: "#z"},
		"data:text/plain,x":                  {Scheme: "data", Port: -1, Path: "text/plain,x"},
		"blob:https://a.example:443/0-1-2":   {Scheme: "blob", Port: -1, Path: "https://a.example:443/0-1-2"},
		"blob:https://a/0?b#c":               {Scheme: "blob", Port: -1, Path: "https://a/0", Query: "?b", Fragment: "#c"},
		"about:blank":                        {Scheme: "about", Port: -1, Path: "blank"},
		"about:srcdoc?a#b":                   {Scheme: "about", Port: -1, Path: "srcdoc", Query: "?a", Fragment: "#b"},
		"about:":                             {Scheme: "about", Port: -1},
		"about:?":                            {Scheme: "about", Port: -1, Query: "?"},
		"about:#":                            {Scheme: "about", Port: -1, Fragment: "#"},
		"\x00 http\t:/\n/\ra:8\t1/b?c\n#\rd": {Scheme: "http", Host: "a", Port: 81, Path: "/b", Query: "?c", Fragment: "#d"},
	} {
		check(t, s, right(want))
		checkRight(t, want)
	}
}

func TestParseEnds(t *testing.T) {
	low := ""
	for c := range 0x21 {
		low += string([]byte{byte(c)})
	}
	checkWrong(t, "", " ", "  ", "\x00", "\t", "\n", "\r", "\x1f", low, low+low)
	for c := range 256 {
		s := string([]byte{byte(c)})
		for _, x := range []string{"http://a/b", "data:b", "http://a/?b", "about:#b"} {
			if c <= 0x20 {
				checkText(t, s+x, x)
				checkText(t, x+s, x)
				checkText(t, s+s+x+s+s, x)
				checkText(t, low+x+low, x)
			} else {
				checkWrong(t, s+x)
			}
		}
		if c > 0x20 {
			checkText(t, "http://a/b#"+s, "http://a/b#"+percent.Encode(percent.Fragment, s))
		}
	}
	checkText(t, "data: a ?", "data: a ?")
	checkText(t, "data: a #", "data: a #")
	checkText(t, "data: a ", "data: a")
	checkText(t, "data: ", "data:")
	checkText(t, "data: \t\n ", "data:")
	checkText(t, "data: ? ", "data: ?")
	checkText(t, "http://a/ ", "http://a/")
	checkText(t, "http://a/ ? # ", "http://a/%20?%20#")
	checkText(t, "about:\u00a0", "about:%C2%A0")
	checkText(t, "about:\u2003", "about:%E2%80%83")
	checkText(t, "about:\xff", "about:%FF")
	checkWrong(t, "\u00a0about:", "\ufeffabout:", "\x7fabout:", "\xffabout:")
}

// TestParseWithin: a tab, a line feed and a carriage return are taken out wherever they stand; other such bytes are not.
func TestParseWithin(t *testing.T) {
	for _, s := range []string{
		"http://a.example:8080/b/../c/%2e%2e/d?e%20f#g",
		"https://[::1]:443/a/.?'#'",
		"wss://1.2.3.4:5/",
		"data:text/plain,a%01?b#c",
	} {
		u := parse(t, s)
		for _, c := range []string{"\t", "\n", "\r", "\r\n\t\t"} {
			for at := range len(s) + 1 {
				check(t, s[:at]+c+s[at:], right(u))
			}
			check(t, strings.Join(strings.Split(s, ""), c), right(u))
		}
	}
	for _, c := range []string{"\x00", "\x0b", "\x0c", "\x1f", " ", "\u0085", "\u2028"} {
		checkWrong(t, "ht"+c+"tp://a/", "http"+c+"://a/", "http:"+c+"//a/", "http:/"+c+"/a/", "http://"+c+"a/", "http://a"+c+"b/", "http://a"+c+"/", "http://a:8"+c+"1/", "http://a:"+c+"/", "http://a"+c+":81/")
	}
	checkText(t, "http://a/b\x0bc", "http://a/b%0Bc")
	checkText(t, "about:b\x0cc", "about:b%0Cc")
}

func TestParseScheme(t *testing.T) {
	checkText(t, "hTtP://a/", "http://a/")
	checkText(t, "HTTPS://A/", "https://a/")
	checkText(t, "Ws://a/", "ws://a/")
	checkText(t, "wSS://a/", "wss://a/")
	checkText(t, "DATA:X", "data:X")
	checkText(t, "bLoB:X", "blob:X")
	checkText(t, "ABOUT:Blank", "about:Blank")
	checkWrong(t,
		"http", "https", "ws", "wss", "data", "blob", "about", "a", "//a", "/", "?", "#",
		":", "::", "://a", ":about:", ":http://a/", "?:", "#about:", "/about:", "?http://a/",
		"1http://a/", "1:", "+http://a/", "-data:", ".about:", "http1://a/", "http+ws://a/", "http.://a/", "data-:", "xdata:", "datax:",
		"ftp://a/", "file:///a", "file://a/", "javascript:x", "mailto:a", "urn:x", "h:", "a:", "z:", "htt://a/", "httpss://a/", "w://a/", "wsss://a/", "dat:", "blo:", "abou:", "ht tp://a/", "http ://a/", "data :", "data/:", "data?:", "data#:", "%68ttp://a/", "[::1]:", "a@data:",
		"ab\u00f6ut:", "\u0430bout:", "http\u017f://a/", "w\u017f://a/", "W\u017f\u017f://a/", "\uff48ttp://a/", "dat\xe1:", "about\x00:", "ABOUT\xff:", "\xc1BOUT:", "@BOUT:", "`bout:", "http\u2236//a/", "data\uff1a",
	)
	// Lower case is of A to Z alone: the bytes beside them, and those that differ by one bit, are no letters.
	for c := range 256 {
		s := string([]byte{byte(c)})
		if c == 'a' || c == 'A' {
			checkText(t, s+"bout:", "about:")
			checkText(t, "dat"+s+":", "data:")
		} else if !strings.Contains(": \t\n\r", s) && c > 0x20 {
			checkWrong(t, s+"bout:", "dat"+s+":")
		}
		switch c {
		case '\t', '\n', '\r':
			checkText(t, "ab"+s+"out:", "about:")
		default:
			checkWrong(t, "ab"+s+"out:")
			if c != 's' && c != 'S' {
				want := wordsParse("http" + s + "//a/")
				check(t, "http"+s+"//a/", want)
				checkWrong(t, "http"+s+"s://a")
			}
		}
	}
}

func TestParseSigns(t *testing.T) {
	for s, want := range map[string][3]string{
		"":              {"", "", ""},
		"?":             {"", "?", ""},
		"#":             {"", "", "#"},
		"?#":            {"", "?", "#"},
		"#?":            {"", "", "#?"},
		"x#a?b":         {"x", "", "#a?b"},
		"x?a#b":         {"x", "?a", "#b"},
		"x??a":          {"x", "??a", ""},
		"x?a?b#c":       {"x", "?a?b", "#c"},
		"x##a":          {"x", "", "##a"},
		"x#a#b?c":       {"x", "", "#a#b?c"},
		"x?a#b?c#d":     {"x", "?a", "#b?c#d"},
		"x?#?#":         {"x", "?", "#?#"},
		"x?:/@[]\\":     {"x", "?:/@[]\\", ""},
		"x#:/@[]\\":     {"x", "", "#:/@[]\\"},
		"?a/../b":       {"", "?a/../b", ""},
		"#a/../b":       {"", "", "#a/../b"},
		"x%3F%23?%23#%": {"x%3F%23", "?%23", "#%"},
	} {
		check(t, "data:"+s, right(api.URL{Scheme: "data", Port: -1, Path: want[0], Query: want[1], Fragment: want[2]}))
		check(t, "http://a/"+s, right(api.URL{Scheme: "http", Host: "a", Port: -1, Path: "/" + want[0], Query: want[1], Fragment: want[2]}))
		if want[0] == "" {
			check(t, "wss://a"+s, right(api.URL{Scheme: "wss", Host: "a", Port: -1, Path: "/", Query: want[1], Fragment: want[2]}))
		}
	}
	checkWrong(t, "http?://a/", "http#://a/", "data?:", "data#:", "http:?//a/", "http:#//a/", "http:/?/a/", "http://?a", "http://#a", "http://?", "http://#")
	// A sign ends the authority, and what is behind it is no part of it.
	checkText(t, "http://a?@b", "http://a/?@b")
	checkText(t, "http://a#@b", "http://a/#@b")
	checkText(t, "http://a:81?:82", "http://a:81/?:82")
	checkText(t, "http://a:?", "http://a/?")
	checkWrong(t, "http://[:?:1]", "http://[::1?]", "http://[#::1]")
}

// TestParseEncoded: each byte in a path, a query and a fragment of each kind, by the sets of chapter 6.
func TestParseEncoded(t *testing.T) {
	encoded := func(c byte, more string) string {
		if c < 0x20 || c > 0x7e || strings.IndexByte(more, c) >= 0 {
			return fmt.Sprintf("%%%02X", c)
		}
		return string([]byte{c})
	}
	for n := range 256 {
		c := byte(n)
		s := string([]byte{c})
		if strings.Contains("\t\n\r", s) {
			continue
		}
		for _, scheme := range []string{"data", "blob", "about"} {
			if c != '#' && c != '?' {
				check(t, scheme+":x"+s+"y", right(api.URL{Scheme: scheme, Port: -1, Path: "x" + encoded(c, "") + "y"}))
			}
			if c != '#' {
				check(t, scheme+":?x"+s+"y", right(api.URL{Scheme: scheme, Port: -1, Query: "?x" + encoded(c, " \"#<>") + "y"}))
			}
			check(t, scheme+":#x"+s+"y", right(api.URL{Scheme: scheme, Port: -1, Fragment: "#x" + encoded(c, " \"<>`") + "y"}))
		}
		for _, scheme := range []string{"http", "https", "ws", "wss"} {
			u := api.URL{Scheme: scheme, Host: "a", Port: -1, Path: "/"}
			if !strings.Contains("#?\\", s) {
				v := u
				v.Path = "/x" + encoded(c, " \"#<>?^`{}") + "y"
				check(t, scheme+"://a/x"+s+"y", right(v))
			}
			if c != '#' {
				v := u
				v.Query = "?x" + encoded(c, " \"#<>'") + "y"
				check(t, scheme+"://a?x"+s+"y", right(v))
			}
			v := u
			v.Fragment = "#x" + encoded(c, " \"<>`") + "y"
			check(t, scheme+"://a#x"+s+"y", right(v))
		}
	}
	// What is encoded already stays so, whatever its letters are, and so does a percent sign without digits.
	for _, s := range []string{"%20%2f%2F%3f%23", "%", "%%", "%z", "%2", "%zz%41", "%c3%A9", "%5c", "%00"} {
		checkText(t, "http://a/"+s+"?"+s+"#"+s, "http://a/"+s+"?"+s+"#"+s)
		checkText(t, "data:"+s+"?"+s+"#"+s, "data:"+s+"?"+s+"#"+s)
	}
	checkText(t, "http://a/\u00e9?\u00e9#\u00e9", "http://a/%C3%A9?%C3%A9#%C3%A9")
	checkText(t, "data:\u00e9?\u00e9#\u00e9", "data:%C3%A9?%C3%A9#%C3%A9")
}

func TestParseOpaque(t *testing.T) {
	for _, scheme := range []string{"data", "blob", "about"} {
		for _, rest := range []string{"", "/", "//", "///", "//a", "//A:80/", "//a/../b", "/../x", ".", "..", "./x/..", "%2e%2E", "\\", "\\\\a\\b", "a\\..\\b", "@", "//u@a:b/", "//[::1/", ":", "::", "http://A/b/../c", "[", "%zz", "a b", "'`^{|}\"<>", "1", "X"} {
			check(t, scheme+":"+rest, right(api.URL{Scheme: scheme, Port: -1, Path: rest}))
			checkText(t, scheme+":"+rest, scheme+":"+rest)
		}
	}
}

func TestParseSlashes(t *testing.T) {
	checkWrong(t, "http:", "http:a", "http:/a", "http:/", "http://", "http:///", "http:///a", "http:////a", "http:\\", "http:\\\\", "http:\\a", "http:\\\\\\a", "http:/\\/a", "http:a//b", "http:?//a", "http:.//a", "http:%2F/a", "http:/%2Fa", "https:", "ws:/a", "wss:///a", "http::", "http:://a/", "http:/:/a")
	for _, s := range []string{"//", "\\\\", "/\\", "\\/"} {
		for _, scheme := range []string{"http", "https", "ws", "wss"} {
			checkText(t, scheme+":"+s+"a", scheme+"://a/")
			checkText(t, scheme+":"+s+"a/b", scheme+"://a/b")
			checkText(t, scheme+":"+s+"a\\b", scheme+"://a/b")
			checkWrong(t, scheme+":"+s)
		}
	}
	checkText(t, "http:\\\\a\\b\\..\\c/.\\d\\", "http://a/c/d/")
	checkText(t, "http://a:81\\b", "http://a:81/b")
	checkText(t, "http://a\\@b", "http://a/@b")
	checkText(t, "http://a\\:b", "http://a/:b")
	checkText(t, "http://a/\\b\\\\", "http://a//b//")
	checkText(t, "http://a?\\#\\", "http://a/?\\#\\")
	checkText(t, "http://a/%5c..", "http://a/%5c..")
}

func TestParseAuthority(t *testing.T) {
	for s, want := range map[string]string{
		"a":                   "a",
		"A.B-c":               "a.b-c",
		"a.":                  "a.",
		"a_~!$&'()*+,;={}\"`": "a_~!$&'()*+,;={}\"`",
		"%41":                 "a",
		"1":                   "0.0.0.1",
		"1.2.3.4":             "1.2.3.4",
		"0x7f.1":              "127.0.0.1",
		"[::]":                "[::]",
		"[::1]":               "[::1]",
		"[0:0::1]":            "[::1]",
		"[1:2:3:4:5:6:7:8]":   "[1:2:3:4:5:6:7:8]",
		"[::FFFF:1.2.3.4]":    "[::ffff:102:304]",
		"..":                  "..",
		".":                   ".",
		"\x61\t\x62":          "ab",
		"[1:\n:1]":            "[1::1]",
		"[::1]\t":             "[::1]",
	} {
		for _, behind := range []string{"", "/", "/x", "?x", "#x"} {
			u := parse(t, "http://"+s+behind)
			if u.Host != want || u.Port != -1 {
				t.Errorf("%q: %+v, want %q", s+behind, u, want)
			}
			for _, port := range []string{":", ":80", ":0080", ":8080", ":\t8080"} {
				v := parse(t, "http://"+s+port+behind)
				u.Port = -1
				if strings.HasSuffix(port, "8080") {
					u.Port = 8080
				}
				if v != u {
					t.Errorf("%q: %+v, want %+v", s+port+behind, v, u)
				}
			}
		}
	}
	for _, s := range []string{
		"", "@", "u@a", "u:p@a", "@a", "a@", "a:80@", "a:@80", "a@:80", "u@[::1]", "[::1]@", "[@]", "[::1@]", "%40", "a%40b", "u%40a",
		"[", "]", "[]", "[]:80", "[:]", "[:80]", "[::1", "[::1:80", "::1", "::1]", "[a]", "[::1]a", "a[::1]", "[::1][::1]", "[[::1]]", "[::1]]", "[[::1]", "[1:2]:3", "[::1]]:80", "[[::1]:80", "a[:]:80", "a[:80", "a]:80", "[:]:80", "[::1].", "[::1]%20", "[::1%25]", "[%3A:1]",
		"a b", " a", "a\x00b", "a<b", "a>b", "a^b", "a|b", "a%", "a%zz", "a%20b", "%", "\u00e9", "a\x7f", "a\xff", "256.256.256.256", "1.2.3.4.5", "09", "1.2.3.256", "a%2fb", "a%5C", "a%3a80",
		":", ":80", ":80:", "::", ":a",
	} {
		for _, behind := range []string{"", "/", "/x", "?x", "#x"} {
			checkWrong(t, "http://"+s+behind, "wss://"+s+behind)
		}
	}
}

func TestParsePort(t *testing.T) {
	noughts := strings.Repeat("0", 100)
	for s, want := range map[string]int{
		"":                      -1,
		":":                     -1,
		":0":                    0,
		":00":                   0,
		":" + noughts:           0,
		":1":                    1,
		":01":                   1,
		":9":                    9,
		":81":                   81,
		":00081":                81,
		":8080":                 8080,
		":444":                  444,
		":65535":                65535,
		":065535":               65535,
		":" + noughts + "65535": 65535,
		":65534":                65534,
		":0\t8\n1\r":            81,
	} {
		for scheme := range defaultPorts {
			for _, h := range []string{"a", "[::1]", "1.2.3.4"} {
				check(t, scheme+"://"+h+s, right(api.URL{Scheme: scheme, Host: h, Port: want, Path: "/"}))
				check(t, scheme+"://"+h+s+"/x", right(api.URL{Scheme: scheme, Host: h, Port: want, Path: "/x"}))
			}
		}
	}
	for scheme, usual := range defaultPorts {
		for _, n := range []int{80, 443} {
			for _, ahead := range []string{"", "0", noughts} {
				want := n
				if n == usual {
					want = -1
				}
				check(t, fmt.Sprintf("%s://a:%s%d/", scheme, ahead, n), right(api.URL{Scheme: scheme, Host: "a", Port: want, Path: "/"}))
			}
		}
	}
	for _, s := range []string{"65536", "065536", "65537", "65616", "65979", "70000", "99999", "100000", "4294967295", "4294967296", "4294967376", "18446744073709551615", "18446744073709551616", "18446744073709551696", "18446744073709552059", "1" + noughts, "340282366920938463463374607431768211536", noughts + "65536",
		"a", "8a", "a8", "0x50", "+80", "-80", "-1", "-0", " 80", "8 0", "8_0", "_", "80:", ":80", "80:80", "80.", "8.0", "8e1", "%38", "8%30", "[80]", "80]", "\u0661", "\uff18", "8\x001", "0b1", "0o7", "80@", "\xff", ","} {
		for scheme := range defaultPorts {
			checkWrong(t, scheme+"://a:"+s, scheme+"://a:"+s+"/", scheme+"://[::1]:"+s+"/x", scheme+"://a:"+s+"?x", scheme+"://a:"+s+"#x")
		}
	}
	// Each number of five digits.
	for n := range 100000 {
		want := wrong
		if n <= 65535 {
			want = right(api.URL{Scheme: "ws", Host: "a", Port: n, Path: "/"})
			if n == 80 {
				want.u.Port = -1
			}
		}
		check(t, "ws://a:"+strconv.Itoa(n), want)
	}
	for c := range 256 {
		s := string([]byte{byte(c)})
		check(t, "http://a:8"+s+"1", wordsParse("http://a:8"+s+"1"))
		check(t, "http://a:"+s, wordsParse("http://a:"+s))
	}
}

func TestParsePath(t *testing.T) {
	for s, want := range map[string]string{
		"":                     "/",
		"/":                    "/",
		"//":                   "//",
		"///":                  "///",
		"/a":                   "/a",
		"/a/":                  "/a/",
		"/a//":                 "/a//",
		"//a":                  "//a",
		"/a/b/c":               "/a/b/c",
		"/a//b":                "/a//b",
		"/.":                   "/",
		"/./":                  "/",
		"/..":                  "/",
		"/../":                 "/",
		"/./.":                 "/",
		"/../..":               "/",
		"/./a":                 "/a",
		"/../a":                "/a",
		"/../../a":             "/a",
		"/a/.":                 "/a/",
		"/a/./":                "/a/",
		"/a/..":                "/",
		"/a/../":               "/",
		"/a/./b":               "/a/b",
		"/a/../b":              "/b",
		"/a/b/..":              "/a/",
		"/a/b/../":             "/a/",
		"/a/b/../..":           "/",
		"/a/b/../../":          "/",
		"/a/b/../../..":        "/",
		"/a/b/../../../c":      "/c",
		"/a/b/../c/../d":       "/a/d",
		"/a/b/../../../../c/d": "/c/d",
		"//..":                 "/",
		"//../":                "/",
		"//../a":               "/a",
		"///..":                "//",
		"///../a":              "//a",
		"/a//..":               "/a/",
		"/a//../b":             "/a/b",
		"/a//../..":            "/",
		"/a//../../b":          "/b",
		"//.":                  "//",
		"//./a":                "//a",
		"/.//a":                "//a",
		"/..//a":               "//a",
		"/a/../..//b":          "//b",
		"/...":                 "/...",
		"/a/...":               "/a/...",
		"/.../..":              "/",
		"/....":                "/....",
		"/.a":                  "/.a",
		"/a.":                  "/a.",
		"/..a":                 "/..a",
		"/a..":                 "/a..",
		"/a/.b/..c":            "/a/.b/..c",
		"/ .":                  "/%20.",
		"/. /":                 "/.%20/",
		"/%2e":                 "/",
		"/%2E":                 "/",
		"/a/%2e":               "/a/",
		"/a/%2E/b":             "/a/b",
		"/a/%2e%2e":            "/",
		"/a/%2E%2E/b":          "/b",
		"/a/%2e%2E/b":          "/b",
		"/a/%2E%2e/b":          "/b",
		"/a/.%2e/b":            "/b",
		"/a/.%2E/b":            "/b",
		"/a/%2e./b":            "/b",
		"/a/%2E./b":            "/b",
		"/a/b/%2E.":            "/a/",
		"/%2e%2e/%2e%2e/a":     "/a",
		"/%2e%2e%2e":           "/%2e%2e%2e",
		"/..%2e":               "/..%2e",
		"/%2E.%2e":             "/%2E.%2e",
		"/%2f":                 "/%2f",
		"/%2e%2f":              "/%2e%2f",
		"/%252e":               "/%252e",
		"/%%2e":                "/%%2e",
		"/%2e%":                "/%2e%",
		"/%2":                  "/%2",
		"/%e2":                 "/%e2",
		"/%2ea":                "/%2ea",
		"/a%2e":                "/a%2e",
		"/%2\te":               "/",
		"/a/.\n.":              "/",
		"/\u2025":              "/%E2%80%A5",
		"/\uff0e":              "/%EF%BC%8E",
		"/a:b@c[d]":            "/a:b@c[d]",
		"/A/B%c3":              "/A/B%c3",
		"/a b\"<>^`{}|'~":      "/a%20b%22%3C%3E%5E%60%7B%7D|'~",
		"\\a\\..\\b":           "/b",
		"/a\\../b":             "/b",
		"/a\\%2e%2e\\b\\":      "/b/",
	} {
		for _, behind := range []string{"", "?", "#", "?q/../r", "#f/.."} {
			u := parse(t, "http://a"+s+behind)
			if u.Path != want {
				t.Errorf("%q: %q, want %q", s+behind, u.Path, want)
			}
			checkRight(t, u)
		}
	}
}

// TestParseEachText: all short texts, behind several beginnings, are what the chapter's words say of them, and right.
func TestParseEachText(t *testing.T) {
	for _, x := range []struct {
		start, pieces string
		size          int
	}{
		{"", "http: s: / \\ a ? # \t : data: about: 1", 4},
		{"http:", "/ \\ a : @ ? # 8 [ ] \n", 4},
		{"http://", "a : @ ? # 8 [ ] / [::1] %", 4},
		{"http://a", "/ \\ . %2e %2E b ? # \t ..", 4},
		{"http://a/", "/ . .. a %2E %", 6},
		{"https://a:", "0 443 80 65535 6 : / a \r", 4},
		{"data:", "/ \\ . ? # ' ` \" \x01 \xff a", 4},
		{"https://a", "/ \\ ? # ' ` \" \x01 \xff ^ <", 4},
	} {
		eachJoin(x.start, strings.Split(x.pieces, " "), x.size, func(s string) {
			if got, want := ask(s), wordsParse(s); got != want {
				t.Fatalf("Parse(%q): %+v, want %+v", s, got, want)
			} else if got.e == api.OK && !Right(got.u) {
				t.Fatalf("Parse(%q): %+v is not right", s, got.u)
			}
		})
	}
}

// TestParseLong: there is no longest one.
func TestParseLong(t *testing.T) {
	a := strings.Repeat("a", 1<<20)
	checkText(t, "http://"+a+"/"+a+"?"+a+"#"+a, "http://"+a+"/"+a+"?"+a+"#"+a)
	checkText(t, "data:"+a, "data:"+a)
	checkText(t, "http://a"+strings.Repeat("/a", 1<<18)+strings.Repeat("/..", 1<<18), "http://a/")
	checkText(t, "http://a"+strings.Repeat("/", 1<<18), "http://a"+strings.Repeat("/", 1<<18))
	checkText(t, "http://a"+strings.Repeat("/%2e%2E", 1<<16)+"/b", "http://a/b")
	checkText(t, strings.Repeat(" ", 1<<20)+"about:"+strings.Repeat("\t", 1<<20)+"a", "about:a")
	checkWrong(t, a+":", a, "http://"+strings.Repeat("[", 1<<20), "http://a:"+strings.Repeat("9", 1<<20), "http://"+strings.Repeat("[]", 1<<19))
}

// H2.

func TestText(t *testing.T) {
	for _, x := range []struct {
		u    api.URL
		want string
	}{
		{api.URL{Scheme: "http", Host: "a", Port: -1, Path: "/"}, "http://a/"},
		{api.URL{Scheme: "http", Host: "a", Port: 8080, Path: "/b", Query: "?c", Fragment: "#d"}, "http://a:8080/b?c#d"},
		{api.URL{Scheme: "https", Host: "a", Port: -1, Path: "/", Query: "?"}, "https://a/?"},
		{api.URL{Scheme: "https", Host: "a", Port: 1, Path: "/", Fragment: "#"}, "https://a:1/#"},
		{api.URL{Scheme: "ws", Host: "[::1]", Port: -1, Path: "/"}, "ws://[::1]/"},
		{api.URL{Scheme: "ws", Host: "[::1]", Port: 65535, Path: "/"}, "ws://[::1]:65535/"},
		{api.URL{Scheme: "wss", Host: "1.2.3.4", Port: -1, Path: "/a"}, "wss://1.2.3.4/a"},
		{api.URL{Scheme: "wss", Host: "1.2.3.4", Port: 0, Path: "/a"}, "wss://1.2.3.4:0/a"},
		{api.URL{Scheme: "data", Port: -1, Path: "a", Query: "?b", Fragment: "#c"}, "data:a?b#c"},
		{api.URL{Scheme: "blob", Port: -1, Path: "http://a/"}, "blob:http://a/"},
		{api.URL{Scheme: "about", Port: -1}, "about:"},
		// What Parse never tells is written field by field as well.
		{api.URL{}, ":"},
		{api.URL{Port: -1}, ":"},
		{api.URL{Scheme: "http"}, "http://:0"},
		{api.URL{Scheme: "http", Port: -1}, "http://"},
		{api.URL{Scheme: "http", Host: "A b", Port: 80, Path: "x", Query: "y", Fragment: "z"}, "http://A b:80xyz"},
		{api.URL{Scheme: "http", Host: "a", Port: -2, Path: "/"}, "http://a:-2/"},
		{api.URL{Scheme: "http", Host: "a", Port: 65536, Path: "/"}, "http://a:65536/"},
		{api.URL{Scheme: "http", Host: "a", Port: math.MaxInt, Path: "/"}, "http://a:9223372036854775807/"},
		{api.URL{Scheme: "http", Host: "a", Port: math.MinInt, Path: "/"}, "http://a:-9223372036854775808/"},
		{api.URL{Scheme: "data", Host: "a", Port: 81, Path: "b"}, "data:b"},
		{api.URL{Scheme: "about", Host: "a", Port: 81}, "about:"},
		{api.URL{Scheme: "HTTP", Host: "a", Port: 81, Path: "/"}, "HTTP:/"},
		{api.URL{Scheme: "ftp", Host: "a", Port: 81, Path: "/", Query: "?q"}, "ftp:/?q"},
		{api.URL{Host: "a", Port: 81, Path: "/"}, ":/"},
		{api.URL{Scheme: "http:", Host: "a", Port: 81, Path: "/"}, "http::/"},
		{api.URL{Scheme: "blob", Port: -1, Path: "\xff\x00 "}, "blob:\xff\x00 "},
	} {
		if got := Text(x.u); got != x.want {
			t.Errorf("Text(%+v): %q, want %q", x.u, got, x.want)
		}
	}
	// The text of each special scheme has a port just if it is not -1.
	for scheme := range defaultPorts {
		for _, port := range []int{-1, 0, 80, 443, 65535} {
			want := scheme + "://h"
			if port != -1 {
				want += fmt.Sprintf(":%d", port)
			}
			if got := Text(api.URL{Scheme: scheme, Host: "h", Port: port, Path: "/p"}); got != want+"/p" {
				t.Errorf("%s, %d: %q", scheme, port, got)
			}
		}
	}
}

func TestTextExample(t *testing.T) {
	checkText(t, "HTTP://EXAMPLE.com:80/a/../b?x#y", "http://example.com/b?x#y")
}

// TestRight: URLs that differ in one field alone from one that is right.
func TestRight(t *testing.T) {
	special := api.URL{Scheme: "http", Host: "a", Port: 81, Path: "/b", Query: "?c", Fragment: "#d"}
	opaque := api.URL{Scheme: "data", Port: -1, Path: "b", Query: "?c", Fragment: "#d"}
	checkRight(t, special)
	checkRight(t, opaque)
	set := map[string]func(u *api.URL, s string){
		"scheme":   func(u *api.URL, s string) { u.Scheme = s },
		"host":     func(u *api.URL, s string) { u.Host = s },
		"port":     func(u *api.URL, s string) { u.Port, _ = strconv.Atoi(s) },
		"path":     func(u *api.URL, s string) { u.Path = s },
		"query":    func(u *api.URL, s string) { u.Query = s },
		"fragment": func(u *api.URL, s string) { u.Fragment = s },
	}
	for _, x := range []struct {
		u     api.URL
		field string
		right []string
		wrong []string
	}{
		{special, "scheme", []string{"http", "https", "ws", "wss"}, []string{"", "HTTP", "Http", "ftp", "data", "blob", "about", " http", "http ", "ht\ttp", "http:", "1"}},
		{special, "host", []string{"a", "a.b", "[::1]", "1.2.3.4", "a_b", "a'"}, []string{"", "A", "%61", "a b", " a", "a\t", "1", "0x7f.1", "1.2.3", "[::0]", "[0::1]", "[::A]", "::1", "[::1", "u@a", "a/", "a\\", "a:", "a:1", "a?", "a#", "a@", "\u00e9"}},
		{special, "port", []string{"-1", "0", "1", "81", "443", "65535"}, []string{"80", "-2", "-80", "65536", "65617", "4294967377", "9223372036854775807", "-9223372036854775808"}},
		{special, "path", []string{"/", "/b", "//", "/b/", "/b//c", "/...", "/%20", "/%2f", "/'|~[]@:", "/%2e%2e%2e"}, []string{"", "b", "/b/.", "/.", "/..", "/./b", "/b/..", "/b/../c", "/%2e", "/a/%2E%2e/", "\\", "/\\", "/b\\c", "/ ", "/b c", "/b\tc", "/b?", "/b#", "/b^", "/{}", "/`", "/\u00e9", "/\xff", "?", "#", "1", ":"}},
		{special, "query", []string{"", "?", "?c", "??", "?%27", "?/../", "?`{}^|"}, []string{"c", " ", "&c", "? ", "?'", "?\"", "?<", "?#", "#", "?a\n", "\t", "?\u00e9", "/", "/.."}},
		{special, "fragment", []string{"", "#", "#d", "##", "#?", "#'{}^"}, []string{"d", " ", "# ", "#d ", "#`", "#\"", "#>", "\n", "#\t", "#\u00e9", "#\x7f", "\x00"}},
		{opaque, "scheme", []string{"data", "blob", "about"}, []string{"", "DATA", "Blob", "ftp", "http", "https", "ws", "wss", "data ", "da\nta", "data:", ":"}},
		{opaque, "host", []string{""}, []string{"a", "b", " ", "[::1]"}},
		{opaque, "port", []string{"-1"}, []string{"0", "80", "81", "-2", "65536"}},
		{opaque, "path", []string{"", "b", "/", "//a/../b", "..", "\\", "a b", " b", "b ", " ", ":", "\"'<>^`{}|", "%2e"}, []string{"?", "#", "b?", "b#", "\x00", "b\tc", "b\r", "\n", "\x1f", "\x7f", "\u00e9", "\xff"}},
		{opaque, "query", []string{"", "?", "?c", "??", "?'", "?`{}^|"}, []string{"c", " ", "? ", "?\"", "?<", "?#", "#", "?a\n", "?\u00e9", "/"}},
		{opaque, "fragment", []string{"", "#", "#d", "##", "#?", "#'{}^"}, []string{"d", " ", "# ", "#d ", "#`", "#\"", "#>", "\n", "#\u00e9"}},
	} {
		for _, s := range x.right {
			u := x.u
			set[x.field](&u, s)
			checkRight(t, u)
		}
		for _, s := range x.wrong {
			u := x.u
			set[x.field](&u, s)
			if Right(u) {
				t.Errorf("%s %q: %+v is right", x.field, s, u)
			}
		}
	}
}

func TestRightAlone(t *testing.T) {
	for _, u := range []api.URL{
		{},
		{Port: -1},
		{Path: "/"},
		{Scheme: "http"},
		{Scheme: "http", Port: -1, Path: "/"},
		{Scheme: "http", Host: "a", Path: "/", Port: 80},
		{Scheme: "ws", Host: "a", Path: "/", Port: 80},
		{Scheme: "https", Host: "a", Path: "/", Port: 443},
		{Scheme: "wss", Host: "a", Path: "/", Port: 443},
		{Scheme: "data"},
		{Scheme: "data", Port: -1, Path: "b "},
		{Scheme: "data", Port: -1, Path: " "},
		{Path: "about:", Port: -1},
		{Path: "http://a/", Port: -1},
		// Fields whose text is that of a URL that is right, but parted in another way.
		{Scheme: "http", Host: "a/b", Port: -1, Path: "/"},
		{Scheme: "http", Host: "a", Port: -1, Path: "/?x"},
		{Scheme: "http", Host: "a", Port: -1, Path: "/", Query: "?x#y"},
		{Scheme: "http", Host: "a", Port: -1, Path: "/", Query: "#y"},
		{Scheme: "http", Host: "a", Port: -1, Path: "/", Fragment: "?y"},
		{Scheme: "http", Host: "a:81", Port: -1, Path: "/"},
		{Scheme: "http", Host: "a", Port: 8, Path: "1/"},
		{Scheme: "http", Host: "a", Port: -1, Path: ":81/"},
		{Scheme: "data:x", Port: -1},
		{Scheme: "data", Port: -1, Path: "x?y"},
		{Scheme: "data", Port: -1, Path: "x", Query: "#y"},
		{Scheme: "data", Port: -1, Query: "x"},
		{Scheme: "data", Port: -1, Fragment: "x"},
	} {
		if Right(u) {
			t.Errorf("%+v is right", u)
		}
	}
	for _, u := range []api.URL{
		{Scheme: "data", Port: -1},
		{Scheme: "data", Port: -1, Path: "b ", Query: "?"},
		{Scheme: "data", Port: -1, Path: " ", Fragment: "#"},
		{Scheme: "data", Port: -1, Path: " b"},
		{Scheme: "https", Host: "a", Path: "/", Port: 80},
		{Scheme: "wss", Host: "a", Path: "/", Port: 80},
		{Scheme: "http", Host: "a", Path: "/", Port: 443},
		{Scheme: "ws", Host: "a", Path: "/", Port: 443},
	} {
		checkRight(t, u)
	}
}

// H3.

func TestOrigin(t *testing.T) {
	for s, want := range map[string]string{
		"http://a":                   "http://a",
		"http://A:80/b?c#d":          "http://a",
		"http://a:81/b?c#d":          "http://a:81",
		"http://a:443":               "http://a:443",
		"https://a.example:443/x":    "https://a.example",
		"https://a.example:8443/x?#": "https://a.example:8443",
		"https://a:80":               "https://a:80",
		"ws://[0::1]/chat":           "ws://[::1]",
		"ws://[::1]:81/chat":         "ws://[::1]:81",
		"wss://1/":                   "wss://0.0.0.1",
		"wss://1.2.3.4:0/":           "wss://1.2.3.4:0",
		"data:x":                     "null",
		"data:":                      "null",
		"blob:https://a/x":           "null",
		"about:blank":                "null",
		"about:srcdoc?a#b":           "null",
	} {
		u := parse(t, s)
		if got := Origin(u); got != want {
			t.Errorf("Origin of %q: %q, want %q", s, got, want)
		}
		u.Path, u.Query, u.Fragment = "", "", ""
		if want != "null" && Text(u) != want {
			t.Errorf("%q without its end: %q, want %q", s, Text(u), want)
		}
	}
	// Special is told by the scheme alone, as it stands.
	for _, x := range []struct {
		u    api.URL
		want string
	}{
		{api.URL{}, "null"},
		{api.URL{Host: "a", Port: 81}, "null"},
		{api.URL{Scheme: "HTTP", Host: "a", Port: -1}, "null"},
		{api.URL{Scheme: "ftp", Host: "a", Port: -1}, "null"},
		{api.URL{Scheme: "data", Host: "a", Port: 81, Path: "/"}, "null"},
		{api.URL{Scheme: "http"}, "http://:0"},
		{api.URL{Scheme: "http", Host: "a", Port: 80}, "http://a:80"},
		{api.URL{Scheme: "wss", Host: "A", Port: -2, Path: "x"}, "wss://A:-2"},
	} {
		if got := Origin(x.u); got != x.want {
			t.Errorf("Origin(%+v): %q, want %q", x.u, got, x.want)
		}
	}
}

func TestSame(t *testing.T) {
	for _, x := range []struct {
		a, b string
		want bool
	}{
		{"http://a/", "http://a/", true},
		{"http://a/x?y#z", "HTTP://A:80", true},
		{"http://a/x", "http://a/y", true},
		{"http://a?x", "http://a?y", true},
		{"http://a#x", "http://a#y", true},
		{"http://a:81/x", "http://a:0081/y", true},
		{"https://a:443", "https://a", true},
		{"ws://[::1]", "ws://[0:0::1]/x", true},
		{"wss://1", "wss://0.0.0.1", true},
		{"http://a", "https://a", false},
		{"http://a", "ws://a", false},
		{"https://a", "wss://a", false},
		{"http://a:443", "https://a", false},
		{"http://a:443", "https://a:443", false},
		{"http://a:81", "https://a:81", false},
		{"http://a", "http://b", false},
		{"http://a", "http://a.", false},
		{"http://a.b", "http://b", false},
		{"http://a", "http://aa", false},
		{"http://a", "http://a:81", false},
		{"http://a", "http://a:0", false},
		{"http://a:81", "http://a:82", false},
		{"http://a:8", "http://a8", false},
		{"data:x", "data:x", false},
		{"data:", "data:", false},
		{"about:blank", "about:blank", false},
		{"blob:http://a/x", "blob:http://a/x", false},
		{"data:x", "about:x", false},
		{"blob:http://a/", "http://a/", false},
		{"about:blank", "https://a", false},
		{"data:", "ws://a", false},
	} {
		a, b := parse(t, x.a), parse(t, x.b)
		if Same(a, b) != x.want || Same(b, a) != x.want {
			t.Errorf("%q, %q: %v, %v, want %v", x.a, x.b, Same(a, b), Same(b, a), x.want)
		}
		if !x.want {
			continue
		}
		if Origin(a) != Origin(b) || Origin(a) == "null" {
			t.Errorf("%q, %q: %q, %q", x.a, x.b, Origin(a), Origin(b))
		}
	}
}

// TestSameFields: all pairs of some URLs, right or not, by the chapter's words.
func TestSameFields(t *testing.T) {
	all := []api.URL{}
	for _, scheme := range []string{"", "http", "https", "ws", "wss", "data", "blob", "about", "HTTP", "ftp"} {
		for _, host := range []string{"", "a", "A"} {
			for _, port := range []int{-1, 0, 80, 443} {
				all = append(all, api.URL{Scheme: scheme, Host: host, Port: port}, api.URL{Scheme: scheme, Host: host, Port: port, Path: "/", Query: "?", Fragment: "#"})
			}
		}
	}
	for _, a := range all {
		for _, b := range all {
			_, special := defaultPorts[a.Scheme]
			want := special && a.Scheme == b.Scheme && a.Host == b.Host && a.Port == b.Port
			if Same(a, b) != want {
				t.Fatalf("Same(%+v, %+v): %v", a, b, !want)
			}
		}
	}
}

// TestSameAnswers: a call leaves nothing behind that another one sees (R1, R3, R4).
func TestSameAnswers(t *testing.T) {
	texts := []string{"http://a:81/b/../c?d#e", "data:x", "", "http://a:b/", "wss://[::1]/", "http://a/b", "about:"}
	first := []answer{}
	for _, s := range texts {
		first = append(first, ask(s))
	}
	for range 3 {
		for i := len(texts) - 1; i >= 0; i-- {
			check(t, texts[i], first[i])
			if Text(first[i].u) != Text(ask(texts[i]).u) || Origin(first[i].u) != Origin(ask(texts[i]).u) {
				t.Errorf("%q has two texts, or origins", texts[i])
			}
		}
	}
}

func FuzzParse(f *testing.F) {
	for _, s := range []string{"http://a:81/b/../c?d#e", "data:x y ?#", "HTTPS:\\\\[::1]:443\\%2e.", " ws://0x7f.1:0/ ", "about:\x01"} {
		f.Add(s)
	}
	f.Fuzz(func(t *testing.T, s string) {
		want := wordsParse(s)
		check(t, s, want)
		if want.e == api.OK {
			checkRight(t, want.u)
		}
	})
}
