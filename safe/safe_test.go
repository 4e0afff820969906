package safe

import (
	"regexp"
	"slices"
	"sort"
	"strconv"
	"strings"
	"testing"

	"transept/field"
)

// The bytes of the chapter's words, written out one by one.
const (
	small         = "abcdefghijklmnopqrstuvwxyz"
	large         = "ABCDEFGHIJKLMNOPQRSTUVWXYZ"
	digits        = "0123456789"
	languageBytes = large + small + digits + "*" + "-" + "." + ";" + "=" + "," + " "
	oddBytes      = "\x00\x01\x02\x03\x04\x05\x06\x07\x08\x0a\x0b\x0c\x0d\x0e\x0f" +
		"\x10\x11\x12\x13\x14\x15\x16\x17\x18\x19\x1a\x1b\x1c\x1d\x1e\x1f\x7f" +
		"\x22\x28\x29\x3a\x3c\x3e\x3f\x40\x5b\x5c\x5d\x7b\x7d"
)

// Letters of UTF-8 that a library folds into ASCII's: the Kelvin sign and the long s.
const (
	kelvin = "\u212a"
	longS  = "\u017f"
)

// The chapter's lists, as it writes them.
const (
	safeNames   = "accept accept-language content-language content-type range"
	safeContent = "application/x-www-form-urlencoded multipart/form-data text/plain"
	neverNames  = "accept-charset accept-encoding access-control-request-headers access-control-request-method connection content-length cookie cookie2 date dnt expect host keep-alive origin referer set-cookie te trailer transfer-encoding upgrade via"
	readNames   = "cache-control content-language content-length content-type expires last-modified pragma"
	hiddenNames = "set-cookie set-cookie2"
)

// Values as the chapter's words tell them.
var (
	languageForm = regexp.MustCompile(`^[A-Za-z0-9*\-.;=, ]*\z`)
	contentForm  = regexp.MustCompile(`^[\t\n\r ]*([^\t\n\r ;]*)[\t\n\r ]*(?s:;.*)?\z`)
	rangeForm    = regexp.MustCompile(`^bytes=([0-9]{1,9})-([0-9]{0,9})\z`)
)

// one is the text of one byte.
func one(c int) string { return string([]byte{byte(c)}) }

// lowered is a text in small letters, by the document's words.
func lowered(s string) string {
	out := strings.Builder{}
	for at := range len(s) {
		if letter := strings.Index(large, s[at:at+1]); letter >= 0 {
			out.WriteByte(small[letter])
		} else {
			out.WriteByte(s[at])
		}
	}
	return out.String()
}

// isOne: the name is one of a list of the chapter, in whatever letters.
func isOne(names, name string) bool {
	return slices.Contains(strings.Split(names, " "), lowered(name))
}

// hasOdd: one of the text's bytes is odd.
func hasOdd(s string) bool {
	for at := range len(s) {
		if strings.Contains(oddBytes, s[at:at+1]) {
			return true
		}
	}
	return false
}

// wordsRange is whether a range is safe, as the chapter's words tell it.
func wordsRange(value string) bool {
	found := rangeForm.FindStringSubmatch(value)
	if found == nil {
		return false
	}
	first, _ := strconv.Atoi(found[1])
	second, e := strconv.Atoi(found[2])
	return e != nil || second >= first
}

// wordsHeader is Header as the chapter's words tell it.
func wordsHeader(name, value string) bool {
	if len(value) > 128 {
		return false
	}
	switch lowered(name) {
	case "accept":
		return !hasOdd(value)
	case "accept-language", "content-language":
		return languageForm.MatchString(value)
	case "content-type":
		found := contentForm.FindStringSubmatch(value)
		return found != nil && !hasOdd(value) && isOne(safeContent, found[1]) && found[1] != ""
	case "range":
		return wordsRange(value)
	}
	return false
}

// wordsUnsafe is Unsafe as the chapter's words tell it.
func wordsUnsafe(l []field.Field) []string {
	size := 0
	for _, f := range l {
		if wordsHeader(f.Name, f.Value) {
			size += len(f.Value)
		}
	}
	out := []string{}
	for _, f := range l {
		name := lowered(f.Name)
		if (size > 1024 || !wordsHeader(f.Name, f.Value)) && !slices.Contains(out, name) {
			out = append(out, name)
		}
	}
	sort.Strings(out)
	return out
}

// eachText hands all texts of at most size of these pieces to do.
func eachText(pieces []string, size int, do func(s string)) {
	var more func(s string, left int)
	more = func(s string, left int) {
		do(s)
		if left == 0 {
			return
		}
		for _, piece := range pieces {
			more(s+piece, left-1)
		}
	}
	more("", size)
}

// eachList hands all lists of at most size of these fields to do.
func eachList(fields []field.Field, size int, do func(l []field.Field)) {
	var more func(l []field.Field)
	more = func(l []field.Field) {
		do(l)
		if len(l) == size {
			return
		}
		for _, f := range fields {
			more(append(slices.Clone(l), f))
		}
	}
	more(nil)
}

// eachCase hands a text to do in small letters, in large ones, by turns, and with each of its letters alone being large, or small.
func eachCase(s string, do func(s string)) {
	low, up := lowered(s), strings.ToUpper(s)
	do(low)
	do(up)
	turns := [2][]byte{[]byte(low), []byte(low)}
	for at := range len(s) {
		do(low[:at] + up[at:at+1] + low[at+1:])
		do(up[:at] + low[at:at+1] + up[at+1:])
		turns[at%2][at] = up[at]
	}
	do(string(turns[0]))
	do(string(turns[1]))
}

// eachNear hands what a text is with a byte less or more, or another one, to do.
func eachNear(s string, do func(s string)) {
	for at := range len(s) {
		do(s[:at] + s[at+1:])
		for _, other := range []string{" ", "x", "-", "_", "\x00", "\xff"} {
			if s[at:at+1] != other {
				do(s[:at] + other + s[at+1:])
			}
		}
	}
	for at := range len(s) + 1 {
		for _, more := range []string{" ", "\t", "\n", "a", "-", "2", ":", "\x00", "\xff"} {
			do(s[:at] + more + s[at:])
		}
	}
}

// list is a list of headers: a name, a value, a name, a value, and so on.
func list(texts ...string) []field.Field {
	l := []field.Field{}
	for at := 0; at < len(texts); at += 2 {
		l = append(l, field.Field{Name: texts[at], Value: texts[at+1]})
	}
	return l
}

// sized is a list of safe headers whose values have so many bytes together.
func sized(size int) []field.Field {
	l := []field.Field{}
	for size > 128 {
		l = append(l, field.Field{Name: "accept", Value: strings.Repeat("a", 128)})
		size -= 128
	}
	return append(l, field.Field{Name: "Accept", Value: strings.Repeat("b", size)})
}

// checkSafe: with each of these values the header is safe, in whatever letters of its name.
func checkSafe(t *testing.T, name string, values ...string) {
	t.Helper()
	for _, value := range values {
		for _, as := range []string{name, lowered(name), strings.ToUpper(name)} {
			if !Header(as, value) {
				t.Errorf("Header(%q, %q): false", as, value)
			}
		}
	}
}

// checkUnsafe: with none of these values the header is safe, in whatever letters of its name.
func checkUnsafe(t *testing.T, name string, values ...string) {
	t.Helper()
	for _, value := range values {
		for _, as := range []string{name, lowered(name), strings.ToUpper(name)} {
			if Header(as, value) {
				t.Errorf("Header(%q, %q): true", as, value)
			}
		}
	}
}

// checkHeaderWords: Header tells what the chapter's words say.
func checkHeaderWords(t *testing.T, name, value string) {
	t.Helper()
	if want := wordsHeader(name, value); Header(name, value) != want {
		t.Errorf("Header(%q, %q): %t, want %t", name, value, !want, want)
	}
}

// checkNames: of the list these names need leave.
func checkNames(t *testing.T, l []field.Field, want ...string) {
	t.Helper()
	if got := Unsafe(l); !slices.Equal(got, want) {
		t.Errorf("Unsafe(%q): %q, want %q", l, got, want)
	}
}

// checkIs: what is asked tells want of each text.
func checkIs(t *testing.T, ask func(s string) bool, want bool, texts ...string) {
	t.Helper()
	for _, s := range texts {
		if ask(s) != want {
			t.Errorf("%q: %t, want %t", s, !want, want)
		}
	}
}

// checkListed: what is asked tells true of the names of a list in whatever letters, and of nothing near them that is none of them.
func checkListed(t *testing.T, ask func(s string) bool, names string) {
	t.Helper()
	for _, name := range strings.Split(names, " ") {
		eachCase(name, func(s string) { checkIs(t, ask, true, s) })
		eachNear(name, func(s string) {
			checkIs(t, ask, isOne(names, s), s)
			checkIs(t, ask, isOne(names, s), strings.ToUpper(s))
		})
		checkIs(t, ask, false, name+name, name+" "+name, name+","+name, "x-"+name, name+"-x")
	}
	checkIs(t, ask, false, "", names, "x", "-", " ", "\x00", "\xff")
}

// L1: Method.

func TestMethodSafe(t *testing.T) {
	for _, method := range []string{"GET", "HEAD", "POST"} {
		eachCase(method, func(s string) { checkIs(t, Method, true, s) })
	}
	checkIs(t, Method, true, "gEt", "HeAd", "pOsT", "post", "Post")
}

func TestMethodOthers(t *testing.T) {
	for _, method := range []string{"DELETE", "OPTIONS", "PUT", "PATCH", "CONNECT", "TRACE", "TRACK", "X", "QUERY"} {
		eachCase(method, func(s string) { checkIs(t, Method, false, s) })
	}
	checkIs(t, Method, false, "", " ", "*", "GETHEAD", "GET HEAD", "GET,POST", "PO"+longS+"T", "ＧＥＴ", "G\xc5T", "\x00")
}

func TestMethodNear(t *testing.T) {
	for _, method := range []string{"GET", "HEAD", "POST"} {
		eachNear(method, func(s string) { checkIs(t, Method, false, s, lowered(s)) })
		for c := range 256 {
			checkIs(t, Method, false, method+one(c), one(c)+method, lowered(method)+one(c), one(c)+lowered(method))
		}
	}
}

// TestMethodEachByte: each byte at each place.
func TestMethodEachByte(t *testing.T) {
	for _, method := range []string{"GET", "HEAD", "POST"} {
		for at := range len(method) {
			for c := range 256 {
				s := method[:at] + one(c) + method[at+1:]
				checkIs(t, Method, strings.Contains(" get head post ", " "+lowered(s)+" "), s)
			}
		}
	}
}

// L1: Header.

func TestHeaderExamples(t *testing.T) {
	checkSafe(t, "content-type", "text/plain")
	checkUnsafe(t, "content-type", "application/json")
}

func TestHeaderKnown(t *testing.T) {
	checkSafe(t, "Accept", "*/*", "text/html,application/xml;q=0.9,*/*;q=0.8", "a", "image/svg+xml", "a;b='c'")
	checkUnsafe(t, "Accept", `a;b="c"`, "a(b)", "<a>", "a:b", "a@b", "a?", "[a]", "{a}", `a\b`, "a\nb", "a\r")
	for _, name := range []string{"Accept-Language", "Content-Language"} {
		checkSafe(t, name, "en", "en-US, de;q=0.5, *;q=0.1", "*", "zh-Hant-TW", "=")
		checkUnsafe(t, name, "en_US", "en\t", "en/us", "dé", "en:us", `"en"`, "en\n", "en+de")
	}
	checkSafe(t, "Content-Type", "text/plain", "text/plain;charset=UTF-8", "multipart/form-data; boundary=--x", "application/x-www-form-urlencoded")
	checkUnsafe(t, "Content-Type", "text/html", "application/json", "text/plain, text/html", "application/xml; a=text/plain")
	checkSafe(t, "Range", "bytes=0-", "bytes=0-0", "bytes=5-10", "bytes=100-99999")
	checkUnsafe(t, "Range", "bytes=-5", "bytes=10-5", "bytes=0-1,2-3", "bytes=0-1, 2-3", "bytes 0-1", "lines=0-1", "0-1")
}

// TestHeaderNames: in whatever letters a name is safe, and none that is only like it.
func TestHeaderNames(t *testing.T) {
	values := []string{"", "a", "text/plain", "bytes=0-"}
	for _, name := range strings.Split(safeNames, " ") {
		eachCase(name, func(s string) {
			for _, value := range values {
				if got, want := Header(s, value), Header(name, value); got != want {
					t.Errorf("Header(%q, %q): %t, want %t", s, value, got, want)
				}
			}
		})
		eachNear(name, func(s string) {
			checkUnsafe(t, s, values...)
		})
	}
	others := []string{"", " ", "x", "content", "type", "language", "content-range", "accept-encoding", "accept-charset", "accept-ranges", "content-encoding", "if-range", "cookie", "host", "authorization", "save-data", "dpr", "viewport-width", "accept language", safeNames, "accept accept", "sec-accept", "ran\u0261e", "Ａccept"}
	for _, name := range others {
		checkUnsafe(t, name, values...)
	}
}

func TestHeaderNameSafe(t *testing.T) {
	eachCase("accept", func(s string) { checkSafe(t, s, "", "a") })
	eachCase("accept-language", func(s string) { checkSafe(t, s, "", "a") })
	eachCase("content-language", func(s string) { checkSafe(t, s, "", "a") })
	eachCase("content-type", func(s string) { checkSafe(t, s, "text/plain") })
	eachCase("range", func(s string) { checkSafe(t, s, "bytes=0-") })
}

// TestHeaderNoByte: a value of no byte has none that may not be; but it is no content, and no range.
func TestHeaderNoByte(t *testing.T) {
	checkSafe(t, "accept", "")
	checkSafe(t, "accept-language", "")
	checkSafe(t, "content-language", "")
	checkUnsafe(t, "content-type", "")
	checkUnsafe(t, "range", "")
	checkUnsafe(t, "", "")
}

// TestHeaderLengths: at most 128 bytes, of whatever name.
func TestHeaderLengths(t *testing.T) {
	for _, name := range []string{"accept", "accept-language", "content-language"} {
		for size := range 129 {
			checkSafe(t, name, strings.Repeat("a", size))
		}
		checkUnsafe(t, name, strings.Repeat("a", 129), strings.Repeat(" ", 129), strings.Repeat("a", 256), strings.Repeat("a", 1<<20))
	}
	for _, kind := range strings.Split(safeContent, " ") {
		for size := range 129 - len(kind) {
			checkSafe(t, "content-type", kind+strings.Repeat(" ", size), strings.Repeat("\t", size)+kind)
		}
		room := 128 - len(kind)
		checkSafe(t, "content-type", kind+";"+strings.Repeat("a", room-1))
		checkUnsafe(t, "content-type", kind+";"+strings.Repeat("a", room), kind+strings.Repeat(" ", room+1), strings.Repeat(" ", room+1)+kind)
	}
	checkUnsafe(t, "range", strings.Repeat("0", 128), "bytes="+strings.Repeat("0", 121)+"-", "bytes="+strings.Repeat("0", 122)+"-", "bytes=0-"+strings.Repeat("0", 120), "bytes=0-"+strings.Repeat("0", 121))
}

// TestHeaderLengthInBytes: bytes are counted, not what they tell in UTF-8.
func TestHeaderLengthInBytes(t *testing.T) {
	checkSafe(t, "accept", strings.Repeat("é", 64))
	checkUnsafe(t, "accept", strings.Repeat("é", 64)+"a", strings.Repeat("é", 65), strings.Repeat("\u3000", 43))
	checkSafe(t, "accept", strings.Repeat("\u3000", 42)+"aa")
}

// TestHeaderOddBytes: each byte, alone, at each end and between.
func TestHeaderOddBytes(t *testing.T) {
	count := 0
	for c := range 256 {
		s := one(c)
		accepts := []string{s, s + "a", "a" + s, "a" + s + "b", s + s, strings.Repeat("a", 127) + s, s + strings.Repeat("a", 127)}
		contents := []string{"text/plain;" + s, "text/plain;a" + s + "b", "multipart/form-data; a=" + s, "application/x-www-form-urlencoded;;" + s + ";"}
		if strings.Contains(oddBytes, s) {
			checkUnsafe(t, "accept", accepts...)
			checkUnsafe(t, "content-type", contents...)
			count++
		} else {
			checkSafe(t, "accept", accepts...)
			checkSafe(t, "content-type", contents...)
		}
	}
	if count != 32-1+1+13 {
		t.Errorf("%d odd bytes", count)
	}
	checkSafe(t, "accept", "\t", "\x20", "!", "#", "/", ";", "=", "~", "|", "`", "^", "\x80", "\xff", "\xc3\xa9")
	checkUnsafe(t, "accept", "\x00", "\x08", "\n", "\x1f", "\x7f", `"`, "(", ")", ":", "<", ">", "?", "@", "[", `\`, "]", "{", "}")
}

// TestHeaderTwoBytes: each pair of bytes, as the value of each name.
func TestHeaderTwoBytes(t *testing.T) {
	for c := range 256 {
		for d := range 256 {
			s := one(c) + one(d)
			for _, name := range strings.Split(safeNames, " ") {
				checkHeaderWords(t, name, s)
			}
			checkHeaderWords(t, "content-type", one(c)+"text/plain"+one(d))
			checkHeaderWords(t, "content-type", "text/plain"+s)
			checkHeaderWords(t, "range", "bytes="+s+"-")
			checkHeaderWords(t, "range", "bytes=1"+s)
		}
	}
}

// TestHeaderLanguageBytes: each byte, alone, at each end and between.
func TestHeaderLanguageBytes(t *testing.T) {
	count := 0
	for c := range 256 {
		s := one(c)
		values := []string{s, s + "a", "a" + s, "a" + s + "b", s + s, strings.Repeat("a", 127) + s, s + strings.Repeat("a", 127)}
		for _, name := range []string{"accept-language", "content-language"} {
			if strings.Contains(languageBytes, s) {
				checkSafe(t, name, values...)
				count++
			} else {
				checkUnsafe(t, name, values...)
			}
		}
	}
	if count != 2*(26+26+10+7) {
		t.Errorf("%d bytes of languages", count)
	}
	checkSafe(t, "accept-language", languageBytes)
	checkUnsafe(t, "accept-language", kelvin, longS, "é", "\u0660", "Ａ", "\u00a0", "_", "\t", "/", ":", "'", "+")
}

// Content-type.

func TestContentLetters(t *testing.T) {
	for _, kind := range strings.Split(safeContent, " ") {
		eachCase(kind, func(s string) {
			checkSafe(t, "content-type", s, s+";", s+"; a=b", " "+s+"\t", s+" ;a/b", "\t\t"+s+"  ; text/html")
		})
	}
}

// TestContentBlanks: blanks at both ends of the essence are none of it; but two of the four are odd.
func TestContentBlanks(t *testing.T) {
	for _, kind := range strings.Split(safeContent, " ") {
		for _, blank := range []string{" ", "\t", "  ", " \t ", "\t\t"} {
			checkSafe(t, "content-type", blank+kind, kind+blank, blank+kind+blank, kind+blank+";"+blank, blank+kind+";a")
		}
		for _, blank := range []string{"\n", "\r", "\r\n", " \n", "\r ", "\x0b", "\x0c", "\x00", "\u00a0", "\u3000", "\x85"} {
			checkUnsafe(t, "content-type", blank+kind, kind+blank, blank+kind+blank, kind+blank+";")
		}
		checkUnsafe(t, "content-type", kind+";\n", kind+";a\r", strings.Replace(kind, "/", " /", 1), strings.Replace(kind, "/", "/ ", 1), strings.Replace(kind, "/", "\t/\t", 1))
	}
}

// TestContentBehind: behind a semicolon may stand whatever has no odd byte.
func TestContentBehind(t *testing.T) {
	for _, kind := range strings.Split(safeContent, " ") {
		checkSafe(t, "content-type", kind+";", kind+";;", kind+"; charset=utf-8", kind+";a/b", kind+";,", kind+"; a=b; c=d", kind+";é\xff", kind+";\t", kind+";'a'", kind+";=")
		checkUnsafe(t, "content-type", kind+`;a="b"`, kind+";a=(b)", kind+";a:b", kind+";a<b", kind+";a>b", kind+";a?b", kind+";a@b", kind+";[", kind+`;\`, kind+";]", kind+";{", kind+";}", kind+";\x00", kind+";\x7f", kind+";\x1f")
	}
}

func TestContentOthers(t *testing.T) {
	for _, kind := range strings.Split(safeContent, " ") {
		eachNear(kind, func(s string) { checkHeaderWords(t, "content-type", s) })
		checkUnsafe(t, "content-type", ";"+kind, "a;"+kind, kind+","+kind, kind+" "+kind, kind+"/", "/"+kind, kind+"/a", "a/"+kind, "'"+kind+"'", kind+",", ","+kind)
		checkUnsafe(t, "content-type", strings.Replace(kind, "/", "", 1), strings.Replace(kind, "/", "//", 1), strings.Replace(kind, "/", ";", 1), strings.Replace(kind, "/", ";/", 1))
	}
	checkUnsafe(t, "content-type", "*/*", "text/*", "*/plain", "text", "text/", "/plain", "plain", "plain/text", "text/form-data", "multipart/plain", "multipart/mixed", "application/form-data", "application/octet-stream", "text/css", "image/png")
	checkUnsafe(t, "content-type", "", " ", ";", ";;", "/", "//", "a", "a/b", "text/plain+xml", "text/p"+"\u217c"+"ain", "text/plain\u2215", "ｔext/plain")
}

// Range.

func TestRangeKnown(t *testing.T) {
	checkSafe(t, "range", "bytes=0-", "bytes=1-1", "bytes=1-2", "bytes=9-10", "bytes=99-100", "bytes=123456789-", "bytes=0-999999999", "bytes=999999999-999999999", "bytes=999999999-")
	checkUnsafe(t, "range", "bytes=2-1", "bytes=10-9", "bytes=100-99", "bytes=1-0", "bytes=999999999-999999998")
}

// TestRangePieces: each piece left out, twice, or in another order.
func TestRangePieces(t *testing.T) {
	checkUnsafe(t, "range", "", "bytes=", "bytes", "bytes=1", "bytes=-", "bytes=-1", "bytes1-2", "=1-2", "1-2", "-", "1-", "-1", "1", "bytes=12", "bytes-", "bytes1-")
	checkUnsafe(t, "range", "bytes=bytes=1-2", "bytesbytes=1-2", "bytes==1-2", "bytes=1--2", "bytes=1-2-", "bytes=1-2-3", "bytes=1--", "bytes=--1", "bytes=-1-2", "bytes=1-2bytes=", "bytes=1-2,3-4", "bytes=1-2,", "bytes=,1-2", "bytes=1-2bytes=1-2")
	checkUnsafe(t, "range", "1-2bytes=", "=bytes1-2", "bytes-1=2", "1-bytes=2", "bytes=1=2", "-bytes=1", "bytes=1-bytes=2", "=1-2bytes", "1bytes=-2", "bytes=-12", "bytes-=12")
}

// TestRangeShortTexts: all texts of few pieces, among which those of the form are.
func TestRangeShortTexts(t *testing.T) {
	count := 0
	eachText([]string{"bytes=", "Bytes=", "0", "1", "2", "-", " "}, 5, func(s string) {
		checkHeaderWords(t, "range", s)
		if Header("range", s) {
			count++
		}
	})
	// Behind bytes= stand one to three digits and -, or one and one, two and one, one and two that are in order.
	if want := (3 + 9 + 27) + 6 + 6 + 24; count != want {
		t.Errorf("%d safe ranges, want %d", count, want)
	}
}

// TestRangeLetters: the word bytes stands in small letters alone.
func TestRangeLetters(t *testing.T) {
	eachCase("bytes=", func(s string) {
		if s == "bytes=" {
			checkSafe(t, "range", s+"1-2")
		} else {
			checkUnsafe(t, "range", s+"1-2", s+"1-")
		}
	})
	eachNear("bytes=", func(s string) { checkUnsafe(t, "range", s+"a1-2") })
	eachNear("bytes=", func(s string) { checkHeaderWords(t, "range", s+"1-2") })
	checkUnsafe(t, "range", "byte"+longS+"=1-2", "byteſ=1-2", "bits=1-2", "lines=1-2", "b=1-2", "none")
}

func TestRangeBlanks(t *testing.T) {
	for _, blank := range []string{" ", "\t", "\n", "\r", "\x0b", "\x00", "\u00a0"} {
		checkUnsafe(t, "range", blank+"bytes=1-2", "bytes"+blank+"=1-2", "bytes="+blank+"1-2", "bytes=1"+blank+"-2", "bytes=1-"+blank+"2", "bytes=1-2"+blank, "bytes=1-"+blank, "bytes=1"+blank+"2-3", blank)
	}
}

// TestRangeEachByte: each byte at each place of a range.
func TestRangeEachByte(t *testing.T) {
	for _, value := range []string{"bytes=12-34", "bytes=5-", "bytes=0-0"} {
		for at := range len(value) {
			for c := range 256 {
				checkHeaderWords(t, "range", value[:at]+one(c)+value[at+1:])
				checkHeaderWords(t, "range", value[:at]+one(c)+value[at:])
			}
		}
		for c := range 256 {
			checkHeaderWords(t, "range", value+one(c))
		}
	}
}

// TestRangeDigits: one to nine of the first number, and none to nine of the second.
func TestRangeDigits(t *testing.T) {
	for first := range 12 {
		for second := range 12 {
			value := "bytes=" + strings.Repeat("0", first) + "-" + strings.Repeat("0", second)
			if first >= 1 && first <= 9 && second <= 9 {
				checkSafe(t, "range", value)
			} else {
				checkUnsafe(t, "range", value)
			}
			checkHeaderWords(t, "range", "bytes="+strings.Repeat("9", first)+"-"+strings.Repeat("9", second))
			checkHeaderWords(t, "range", "bytes="+strings.Repeat("1", first)+"-"+strings.Repeat("2", second))
		}
	}
	checkSafe(t, "range", "bytes=123456789-987654321", "bytes=000000001-1", "bytes=1-000000001")
	checkUnsafe(t, "range", "bytes=1234567890-", "bytes=1234567890-1234567890", "bytes=1-1234567890", "bytes=0000000001-", "bytes=1-0000000001", "bytes=0-4294967296", "bytes=18446744073709551616-18446744073709551617", "bytes=0-99999999999999999999")
	checkUnsafe(t, "range", "bytes=+1-2", "bytes=1-+2", "bytes=0x1-2", "bytes=1_0-20", "bytes=1.0-2", "bytes=1e1-20", "bytes=\u0661-2", "bytes=1-\u0662", "bytes=a-b", "bytes=1-a")
}

// TestRangeNoughts: numbers are held against each other by what they tell, not by their digits.
func TestRangeNoughts(t *testing.T) {
	checkSafe(t, "range", "bytes=02-10", "bytes=002-2", "bytes=2-002", "bytes=00-0", "bytes=0-000000000", "bytes=000000009-10", "bytes=9-10", "bytes=09-010")
	checkUnsafe(t, "range", "bytes=02-1", "bytes=2-01", "bytes=002-001", "bytes=10-09", "bytes=10-000000009", "bytes=3-002")
}

// TestRangeOrder: the second number is one less, the same, one more, or none.
func TestRangeOrder(t *testing.T) {
	for _, n := range []int{1, 2, 9, 10, 99, 100, 255, 256, 1000, 65535, 65536, 99999999, 100000000, 999999998} {
		first := "bytes=" + strconv.Itoa(n) + "-"
		checkUnsafe(t, "range", first+strconv.Itoa(n-1), first+"0")
		checkSafe(t, "range", first+strconv.Itoa(n), first+strconv.Itoa(n+1), first, first+"999999999")
	}
	checkSafe(t, "range", "bytes=0-0", "bytes=0-1", "bytes=0-", "bytes=999999999-999999999", "bytes=999999999-")
	for first := range 30 {
		for second := range 30 {
			checkHeaderWords(t, "range", "bytes="+strconv.Itoa(first)+"-"+strconv.Itoa(second))
		}
	}
}

// TestOwnWords: what makes a value safe is its own name's word, not another one's.
func TestOwnWords(t *testing.T) {
	checkSafe(t, "accept", "bytes=2-1", "text/html", "a_b", "é")
	checkUnsafe(t, "accept-language", "text/plain", "a_b", "é", "a\tb")
	checkUnsafe(t, "content-language", "text/plain", "a_b", "é", "a\tb")
	checkSafe(t, "content-language", "bytes=2-1", "bytes=0-")
	checkUnsafe(t, "content-type", "bytes=0-", "en", "a")
	checkUnsafe(t, "range", "text/plain", "en", "a")
}

// TestHeaderShortTexts: all texts of few pieces, of each name.
func TestHeaderShortTexts(t *testing.T) {
	for _, name := range strings.Split(safeNames, " ") {
		eachText([]string{"text/plain", "Text", "/", "PLAIN", ";", " ", "\n", "\""}, 4, func(s string) { checkHeaderWords(t, name, s) })
		eachText([]string{"a", "9", "-", "\xff", "\t", "(", "_"}, 4, func(s string) { checkHeaderWords(t, name, s) })
	}
}

// L1: Unsafe.

func TestUnsafeNothing(t *testing.T) {
	checkNames(t, nil)
	checkNames(t, []field.Field{})
}

func TestUnsafeOfSafe(t *testing.T) {
	checkNames(t, list("accept", "a"))
	checkNames(t, list("Accept", "a", "ACCEPT", "b", "accept", ""))
	checkNames(t, list("Range", "bytes=0-", "Content-Type", "text/plain", "Accept-Language", "en", "Content-Language", "de", "Accept", "*/*"))
}

func TestUnsafeOfUnsafe(t *testing.T) {
	checkNames(t, list("x", ""), "x")
	checkNames(t, list("", ""), "")
	checkNames(t, list("X-B", "1", "x-a", "2"), "x-a", "x-b")
	checkNames(t, list("range", "x", "content-type", "text/html", "accept", "(", "accept-language", "_", "content-language", "/"), "accept", "accept-language", "content-language", "content-type", "range")
	checkNames(t, list("accept", strings.Repeat("a", 129)), "accept")
}

func TestUnsafeMixed(t *testing.T) {
	checkNames(t, list("accept", "a", "x", "1", "range", "bytes=0-"), "x")
	checkNames(t, list("x", "1", "accept", "a"), "x")
	checkNames(t, list("accept", "a", "Content-Type", "application/json", "X-Y", "z"), "content-type", "x-y")
}

// TestUnsafeLetters: names that differ but for large and small letters are one.
func TestUnsafeLetters(t *testing.T) {
	checkNames(t, list("X", "1", "x", "2", "X", "3"), "x")
	checkNames(t, list("x-AB", "1", "X-ab", "2", "y", "3", "X-AB", "4"), "x-ab", "y")
	checkNames(t, list("Content-TYPE", "a/b", "CONTENT-type", "c/d"), "content-type")
	checkNames(t, list("K", "", "k", "", kelvin, ""), "k", kelvin)
	checkNames(t, list("É", "", "é", "", "\xc9", "", "\xe9", ""), "É", "é", "\xc9", "\xe9")
	checkNames(t, list("[", "", "{", "", "@", "", "`", ""), "@", "[", "`", "{")
}

// TestUnsafeHereAndThere: a name that is safe with one value and not with another one is told.
func TestUnsafeHereAndThere(t *testing.T) {
	checkNames(t, list("accept", "a", "accept", "("), "accept")
	checkNames(t, list("accept", "(", "Accept", "a"), "accept")
	checkNames(t, list("accept", "(", "Accept", ")"), "accept")
	checkNames(t, list("Range", "bytes=0-", "x", "1", "range", "bytes=1-0"), "range", "x")
	checkNames(t, list("content-type", "text/plain", "Content-Type", "text/html", "accept", "a"), "content-type")
}

// TestUnsafeRising: by the first byte that differs, in small letters, or by being a beginning.
func TestUnsafeRising(t *testing.T) {
	checkNames(t, list("b", "", "a", "", "c", ""), "a", "b", "c")
	checkNames(t, list("B", "", "a", "", "C", ""), "a", "b", "c")
	checkNames(t, list("ab", "", "a", "", "abc", "", "b", ""), "a", "ab", "abc", "b")
	checkNames(t, list("x10", "", "x9", "", "x1", ""), "x1", "x10", "x9")
	checkNames(t, list("_", "", "A", "", "Z", "", "~", "", "-", ""), "-", "_", "a", "z", "~")
	checkNames(t, list("\xff", "", "\x7f", "", "a", "", "é", "", "", "", "\x00", ""), "", "\x00", "a", "\x7f", "é", "\xff")
	l, want := []field.Field{}, []string{}
	for c := 255; c >= 0; c-- {
		l = append(l, field.Field{Name: one(c)})
		if !strings.Contains(large, one(c)) {
			want = append([]string{one(c)}, want...)
		}
	}
	checkNames(t, l, want...)
}

// TestUnsafeTogether: safe values of more than 1024 bytes together are safe no more.
func TestUnsafeTogether(t *testing.T) {
	for _, size := range []int{0, 1, 128, 129, 512, 1022, 1023, 1024} {
		checkNames(t, sized(size))
		checkNames(t, append(sized(size), list("X", "1")...), "x")
		checkNames(t, append(list("range", ""), sized(size)...), "range")
	}
	for _, size := range []int{1025, 1026, 1152, 2048, 100000} {
		checkNames(t, sized(size), "accept")
		checkNames(t, append(sized(size), list("X", "1")...), "accept", "x")
		checkNames(t, append(list("range", ""), sized(size)...), "accept", "range")
		checkNames(t, append(list("accept", "("), sized(size)...), "accept")
	}
}

// TestUnsafeAllTogether: values of all safe names count, and all these names are told, with values of no byte, too.
func TestUnsafeAllTogether(t *testing.T) {
	l := list("Accept-Language", strings.Repeat("a", 128), "content-LANGUAGE", strings.Repeat("b", 128), "Content-Type", "text/plain;"+strings.Repeat("c", 117))
	l = append(l, list("Range", "bytes=000000000-000000000")...) // 25 bytes
	l = append(l, sized(1024-3*128-25)...)
	checkNames(t, l)
	checkNames(t, append(slices.Clone(l), list("X", "x")...), "x")
	all := []string{"accept", "accept-language", "content-language", "content-type", "range"}
	checkNames(t, append(slices.Clone(l), list("accept", "a")...), all...)
	checkNames(t, append(list("content-language", "c"), l...), all...)
	checkNames(t, append(list("X", "", "content-language", "c", "b", ""), l...), append([]string{"accept", "accept-language", "b"}, append(slices.Clone(all[2:]), "x")...)...)
	checkNames(t, append(sized(1025), list("accept-language", "")...), "accept", "accept-language")
	checkNames(t, append(sized(1024), list("accept-language", "")...))
}

// TestUnsafeNotCounted: values of unsafe fields count for nothing, nor do names.
func TestUnsafeNotCounted(t *testing.T) {
	long := strings.Repeat("a", 100000)
	checkNames(t, append(sized(1024), list("x", long)...), "x")
	checkNames(t, append(list("x", long), sized(1024)...), "x")
	checkNames(t, append(list("range", long), sized(1024)...), "range")
	checkNames(t, append(list("range", "a"), sized(1024)...), "range")
	checkNames(t, list("x", long, "accept-language", "en"), "x")
	checkNames(t, append(list("x", long), sized(1025)...), "accept", "x")
	checkNames(t, append(list(long, ""), sized(1024)...), long)
	checkNames(t, append(list("content-type", "text/html", "accept", strings.Repeat("a", 129)), sized(1000)...), "accept", "content-type")
	names := []field.Field{}
	for range 1000 {
		names = append(names, field.Field{Name: "accept-language"})
	}
	checkNames(t, names)
	checkNames(t, append(names, sized(1024)...))
	checkNames(t, append(names, sized(1025)...), "accept", "accept-language")
}

// TestUnsafeShortLists: all lists of few fields, some of which are too long together.
func TestUnsafeShortLists(t *testing.T) {
	half := strings.Repeat("a", 128)
	fields := list("accept", "a", "Accept", "(", "X", "b", "x", "", "range", "bytes=0-", "RANGE", half, "accept-language", half)
	eachList(fields, 4, func(l []field.Field) {
		checkNames(t, l, wordsUnsafe(l)...)
		long := append(slices.Clone(l), sized(1016)...)
		checkNames(t, long, wordsUnsafe(long)...)
		long = append(sized(800), l...)
		checkNames(t, long, wordsUnsafe(long)...)
	})
}

func TestUnsafeLong(t *testing.T) {
	l, want := []field.Field{}, []string{}
	for n := range 100000 {
		name := strconv.Itoa(1000000 - n)
		l = append(l, field.Field{Name: "X" + name, Value: "1"}, field.Field{Name: "accept"})
		want = append(want, "x"+name)
	}
	sort.Strings(want)
	checkNames(t, l, want...)
	checkNames(t, append(l, sized(1025)...), append([]string{"accept"}, want...)...)
}

// TestHandedInStays: the list stays as it was, and an answer is the caller's own.
func TestHandedInStays(t *testing.T) {
	l := append(list("X", "1", "accept", "(", "x", "2", "B", ""), sized(1025)...)
	room := append(l, list("y", "z")...)
	was := slices.Clone(room)
	first := Unsafe(l)
	if !slices.Equal(room, was) {
		t.Errorf("%q", room)
	}
	for at := range first {
		first[at] = "w"
	}
	_ = append(first, "w")
	checkNames(t, l, "accept", "b", "x")
	for at := range l {
		l[at] = field.Field{Name: "v"}
	}
	checkNames(t, l, "v")
	checkNames(t, was, "accept", "b", "x", "y")
}

// L1: Never.

func TestNeverListed(t *testing.T) {
	if len(strings.Split(neverNames, " ")) != 21 {
		t.Error("not 21 names")
	}
	checkListed(t, Never, neverNames)
}

func TestNeverBegins(t *testing.T) {
	for _, begin := range []string{"proxy-", "sec-"} {
		eachCase(begin, func(s string) {
			checkIs(t, Never, true, s, s+"a", s+"-", s+s, s+" ", s+"\x00", s+"\xff", s+"fetch-mode", s+"Authorization", s+strings.Repeat("x", 100000))
		})
		for c := range 256 {
			checkIs(t, Never, true, begin+one(c))
			checkIs(t, Never, false, one(c)+begin, one(c)+begin+"a")
		}
		eachNear(begin, func(s string) {
			want := strings.HasPrefix(s, "proxy-") || strings.HasPrefix(s, "sec-")
			checkIs(t, Never, want, s, strings.ToUpper(s), s+"a")
		})
		checkIs(t, Never, false, "x-"+begin, "x"+begin+"a", " "+begin, "-"+begin, strings.TrimSuffix(begin, "-"), strings.Replace(begin, "-", "_a", 1), strings.Replace(begin, "-", ":a", 1))
	}
	checkIs(t, Never, false, "proxy", "sec", "prox-y", "secret", "proxies-", "second", longS+"ec-", "ſec-a", "pro-sec-", "x-sec-", "x-proxy-")
}

func TestNeverOthers(t *testing.T) {
	checkIs(t, Never, false, "accept", "accept-language", "content-type", "content-language", "range", "x", "authorization", "user-agent", "set-cookie2", "cookie3", "cache-control", "pragma", "if-match", "coo"+kelvin+"ie", "access-control-request-", "access-control-allow-origin", "content", "length", "keep", "alive")
}

// TestNeverEachByte: each byte at each place of the shorter names.
func TestNeverEachByte(t *testing.T) {
	for _, name := range []string{"te", "via", "dnt", "date", "host"} {
		for at := range len(name) {
			for c := range 256 {
				s := name[:at] + one(c) + name[at+1:]
				checkIs(t, Never, isOne(neverNames, s), s)
			}
		}
	}
	for c := range 256 {
		for d := range 256 {
			s := one(c) + one(d)
			checkIs(t, Never, lowered(s) == "te", s)
		}
	}
}

// L2.

func TestReads(t *testing.T) {
	if len(strings.Split(readNames, " ")) != 7 {
		t.Error("not 7 names")
	}
	checkListed(t, Reads, readNames)
	checkIs(t, Reads, false, strings.Split(hiddenNames, " ")...)
	checkIs(t, Reads, false, "content-encoding", "content", "cache", "control", "modified", "last", "etag", "date", "age", "location", "server", "accept", "range", "link", "content-range", "pra"+"\u0261"+"ma", "expire"+longS)
}

func TestHidden(t *testing.T) {
	checkListed(t, Hidden, hiddenNames)
	checkIs(t, Hidden, false, strings.Split(readNames, " ")...)
	checkIs(t, Hidden, false, "cookie", "cookie2", "set", "set-", "set-cookie1", "set-cookie3", "set-cookie22", "set-cookies", "setcookie", "set cookie", "set_cookie", "set-cookie-2", "set-coo"+kelvin+"ie", longS+"et-cookie")
}

// What follows.

// TestAnyLetters: what is safe, or is not, is so in any letters of its name.
func TestAnyLetters(t *testing.T) {
	names := strings.Split(safeNames+" "+neverNames+" "+readNames+" "+hiddenNames+" x sec-a proxy-b", " ")
	for _, name := range names {
		eachCase(name, func(s string) {
			for _, value := range []string{"", "a", "(", "text/plain", "bytes=0-", "_"} {
				checkHeaderWords(t, s, value)
				checkNames(t, list(s, value), Unsafe(list(name, value))...)
			}
			if Never(s) != Never(name) || Reads(s) != Reads(name) || Hidden(s) != Hidden(name) {
				t.Errorf("%q and %q differ", s, name)
			}
		})
	}
}

// TestUnsafeTellsHeader: alone, a field is told just if it is not safe.
func TestUnsafeTellsHeader(t *testing.T) {
	for _, name := range strings.Split(safeNames+" x", " ") {
		for c := range 256 {
			for _, value := range []string{one(c), "text/plain" + one(c), "bytes=0-" + one(c)} {
				if got := Unsafe(list(name, value)); (len(got) == 0) != Header(name, value) {
					t.Errorf("Unsafe(%q: %q): %q", name, value, got)
				}
			}
		}
	}
}

// TestSameAnswers: asked again, and after others, each call answers the same.
func TestSameAnswers(t *testing.T) {
	l := append(list("X", "1", "y", "2", "Accept", "a", "range", "bytes=2-1", "b", "", "Z", ""), sized(900)...)
	for range 100 {
		checkNames(t, l, "b", "range", "x", "y", "z")
		checkNames(t, sized(1025), "accept")
		checkSafe(t, "accept", "a")
		checkUnsafe(t, "accept", "(")
		checkSafe(t, "range", "bytes=1-2")
		checkIs(t, Never, true, "sec-", "cookie")
		checkIs(t, Never, false, "accept", "sec")
	}
}
