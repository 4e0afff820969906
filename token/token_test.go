package token

import (
	"strings"
	"testing"
)

// The bytes of the chapter's words, written out one by one.
const (
	small      = "abcdefghijklmnopqrstuvwxyz"
	large      = "ABCDEFGHIJKLMNOPQRSTUVWXYZ"
	nameBytes  = large + small + "0123456789" + "!#$%&'*+-.^_" + "|~" + "\x60"
	blankBytes = "\x09\x0a\x0d\x20"
)

// Letters of UTF-8 that a library folds into ASCII's: the long s, the Kelvin sign, the i with a dot and the one without.
const (
	longS   = "\u017f"
	kelvin  = "\u212a"
	dotted  = "\u0130"
	dotless = "\u0131"
)

var (
	sent      = [...]string{"DELETE", "GET", "HEAD", "OPTIONS", "POST", "PUT"}
	forbidden = [...]string{"CONNECT", "TRACE", "TRACK"}
)

// one is the text of one byte.
func one(c int) string { return string([]byte{byte(c)}) }

// everyByte is a text of all 256 bytes, in their order.
func everyByte() string {
	s := ""
	for c := range 256 {
		s += one(c)
	}
	return s
}

// eachText hands all texts of at most size of these bytes to do.
func eachText(bytes string, size int, do func(s string)) {
	var more func(s string)
	more = func(s string) {
		do(s)
		if len(s) == size {
			return
		}
		for at := range len(bytes) {
			more(s + bytes[at:at+1])
		}
	}
	more("")
}

// eachCase hands a text of large letters to do in all ways to write each of them small or large.
func eachCase(s string, do func(s string)) {
	for mask := range 1 << len(s) {
		b := []byte(s)
		for at := range b {
			if mask>>at&1 == 1 {
				b[at] = small[b[at]-'A']
			}
		}
		do(string(b))
	}
}

// lowered is Lower as the chapter's words tell it.
func lowered(s string) string {
	out := ""
	for at := range len(s) {
		if letter := strings.Index(large, s[at:at+1]); letter >= 0 {
			out += small[letter : letter+1]
		} else {
			out += s[at : at+1]
		}
	}
	return out
}

// trimmed is a text without those bytes at both ends, taken away one by one.
func trimmed(s, bytes string) string {
	for s != "" && strings.Contains(bytes, s[:1]) {
		s = s[1:]
	}
	for s != "" && strings.Contains(bytes, s[len(s)-1:]) {
		s = s[:len(s)-1]
	}
	return s
}

// isName is Name as the chapter's words tell it.
func isName(s string) bool {
	for at := range len(s) {
		if !strings.Contains(nameBytes, s[at:at+1]) {
			return false
		}
	}
	return len(s) > 0
}

// isValue is Value as the chapter's words tell it.
func isValue(s string) bool {
	for _, bad := range []string{"\x00", "\x0a", "\x0d"} {
		if strings.Contains(s, bad) {
			return false
		}
	}
	return s == "" || !strings.Contains(blankBytes, s[:1]) && !strings.Contains(blankBytes, s[len(s)-1:])
}

func checkName(t *testing.T, s string, want bool) {
	t.Helper()
	if got := Name(s); got != want {
		t.Errorf("Name(%q): %t", s, got)
	}
}

func checkValue(t *testing.T, s string, want bool) {
	t.Helper()
	if got := Value(s); got != want {
		t.Errorf("Value(%q): %t", s, got)
	}
}

func checkTrim(t *testing.T, s, want string) {
	t.Helper()
	if got := Trim(s); got != want {
		t.Errorf("Trim(%q): %q, want %q", s, got, want)
	}
}

func checkLower(t *testing.T, s, want string) {
	t.Helper()
	if got := Lower(s); got != want {
		t.Errorf("Lower(%q): %q, want %q", s, got, want)
	}
}

// checkFold: so it is asked either way round.
func checkFold(t *testing.T, a, b string, want bool) {
	t.Helper()
	if Fold(a, b) != want || Fold(b, a) != want {
		t.Errorf("Fold(%q, %q): %t, and the other way round %t, want %t", a, b, Fold(a, b), Fold(b, a), want)
	}
}

func checkMethod(t *testing.T, s, want string) {
	t.Helper()
	if got := Method(s); got != want {
		t.Errorf("Method(%q): %q, want %q", s, got, want)
	}
}

func checkNever(t *testing.T, s string, want bool) {
	t.Helper()
	if got := Never(s); got != want {
		t.Errorf("Never(%q): %t", s, got)
	}
}

// TestNothing: what each call says of a text of no bytes.
func TestNothing(t *testing.T) {
	checkName(t, "", false)
	checkValue(t, "", true)
	checkTrim(t, "", "")
	checkLower(t, "", "")
	checkFold(t, "", "", true)
	checkMethod(t, "", "")
	checkNever(t, "", false)
	checkParts(t, "", "")
}

// I1: Name.

func TestNameKnown(t *testing.T) {
	for s, want := range map[string]bool{
		"Content-Type": true, "content-type": true, "ETAG": true, "x": true, "7": true, "X-1_2.3": true,
		"Access-Control-Allow-Origin": true, "!#$%&'*+-.^_|~`": true, "-": true, "~a~": true, "``": true,
		"a b": false, " a": false, "a ": false, " ": false, "a\t": false, "a\r\n": false, "a:": false, ":a": false,
		"a,b": false, "a;b": false, "a/b": false, `a\b`: false, `"a"`: false, "a\x00": false, "\x00": false,
		"a=b": false, "(a)": false, "<a>": false, "[a]": false, "{a}": false, "a@b": false, "a?b": false,
		"é": false, "aé": false, "\xff": false, "a\x80": false, longS: false, kelvin: false, "Ａ": false, "１": false,
	} {
		checkName(t, s, want)
	}
}

// TestNameEachByte: each byte alone, and at each place of a name.
func TestNameEachByte(t *testing.T) {
	count := 0
	for c := range 256 {
		want := strings.Contains(nameBytes, one(c))
		for _, s := range []string{one(c), one(c) + "ab", "a" + one(c) + "b", "ab" + one(c), one(c) + one(c)} {
			checkName(t, s, want)
		}
		if Name(one(c)) {
			count++
		}
	}
	if count != 77 {
		t.Errorf("%d bytes are names, want 77", count)
	}
}

// TestNameBeside: the row of signs, and the bytes beside each of them and beside the letters and digits.
func TestNameBeside(t *testing.T) {
	for at := range len(nameBytes) {
		checkName(t, nameBytes[at:at+1], true)
	}
	for _, c := range []byte("\x1f \"(),/:;<=>?@[\\]{}\x7f\x80\xa0\xff") {
		checkName(t, one(int(c)), false)
	}
}

func TestNameShortTexts(t *testing.T) {
	eachText("aZ0`~ :\x80", 4, func(s string) { checkName(t, s, isName(s)) })
}

func TestNameLong(t *testing.T) {
	long := strings.Repeat(nameBytes, 10000)
	checkName(t, long, true)
	checkName(t, long+" ", false)
	checkName(t, long+"\xff"+long, false)
	checkName(t, everyByte(), false)
}

// I1: Value.

func TestValueKnown(t *testing.T) {
	for s, want := range map[string]bool{
		"text/html; charset=utf-8": true, "a": true, "a b": true, "a\tb": true, "a \t b": true, "\"a, b\"": true,
		"Tue, 17 Nov 2026 23:23:32 GMT": true, "é": true, "\xff\x80": true, "\xa0a\xa0": true, "\x0b": true, "\x0ca\x0c": true,
		"\x01": true, "\x7f": true, "a\x01b": true,
		" ": false, "\t": false, "\n": false, "\r": false, " \t": false, "\x00": false,
		" a": false, "\ta": false, "\na": false, "\ra": false, "a ": false, "a\t": false, "a\n": false, "a\r": false,
		" a ": false, "a\x00b": false, "a\nb": false, "a\rb": false, "a\r\nb": false, "a\r\n b": false, "\x00a": false, "a\x00": false,
	} {
		checkValue(t, s, want)
	}
}

// TestValueEachByte: each byte alone, at each end, and within.
func TestValueEachByte(t *testing.T) {
	for c := range 256 {
		atEnd := !strings.Contains(blankBytes, one(c)) && c != 0
		within := c != 0 && c != 10 && c != 13
		for _, s := range []string{one(c), one(c) + "ab", "ab" + one(c), one(c) + one(c)} {
			checkValue(t, s, atEnd)
		}
		checkValue(t, "a"+one(c)+"b", within)
		checkValue(t, "a long one "+one(c)+" of many bytes", within)
		checkValue(t, "\xe9"+one(c)+"\xff", within)
	}
}

func TestValueShortTexts(t *testing.T) {
	eachText("a\x00\t\n\r \xff", 5, func(s string) { checkValue(t, s, isValue(s)) })
}

func TestValueLong(t *testing.T) {
	long := strings.Repeat("a \t", 100000)
	checkValue(t, long+"a", true)
	checkValue(t, long, false)
	checkValue(t, " "+long+"a", false)
	for _, c := range "\x00\n\r" {
		checkValue(t, long+string(c)+long+"a", false)
	}
}

// I1: Trim.

func TestTrimKnown(t *testing.T) {
	for s, want := range map[string]string{
		"a": "a", " a": "a", "a ": "a", " a ": "a", "\ta\t": "a", "\na\n": "a", "\ra\r": "a", "\r\n\t a b \t\n\r": "a b",
		" ": "", "\t": "", "\n": "", "\r": "", " \t\r\n": "", "    ": "",
		"a b": "a b", "a\tb": "a\tb", "a\r\nb": "a\r\nb", " a\r\n b ": "a\r\n b",
		"\x00a\x00": "\x00a\x00", "\x0ba\x0b": "\x0ba\x0b", "\x0ca\x0c": "\x0ca\x0c", "\xa0a\xa0": "\xa0a\xa0",
		" \x00 a \x00 ": "\x00 a \x00", " \x0b ": "\x0b", "\t\x0c\t": "\x0c", "\n\xa0\n": "\xa0",
		"\u00a0a\u00a0": "\u00a0a\u00a0", "\u2028a\u3000": "\u2028a\u3000", "\u0085": "\u0085", "\ufeffa": "\ufeffa",
		" \xff ": "\xff", "\xc2 ": "\xc2", " é ": "é", " \"a \" ": "\"a \"",
	} {
		checkTrim(t, s, want)
	}
}

// TestTrimEachByte: just the four blanks are taken, from both ends, and from nowhere within.
func TestTrimEachByte(t *testing.T) {
	for c := range 256 {
		s := one(c)
		if strings.Contains(blankBytes, s) {
			for cut, want := range map[string]string{s: "", s + s: "", s + "a": "a", "a" + s: "a", s + s + "a" + s: "a", "a" + s + "b": "a" + s + "b"} {
				checkTrim(t, cut, want)
			}
			continue
		}
		for _, stays := range []string{s, s + "a", "a" + s, s + "a" + s, s + " " + s} {
			checkTrim(t, stays, stays)
			checkTrim(t, " "+stays+"\r\n", stays)
		}
	}
}

func TestTrimShortTexts(t *testing.T) {
	eachText("a\t\n\r \x0b\xa0", 5, func(s string) {
		checkTrim(t, s, trimmed(s, blankBytes))
		checkTrim(t, Trim(s), Trim(s))
	})
}

func TestTrimLong(t *testing.T) {
	blanks := strings.Repeat(blankBytes, 100000)
	checkTrim(t, blanks, "")
	checkTrim(t, blanks+"a"+blanks+"b"+blanks, "a"+blanks+"b")
}

// I1: Lower.

func TestLowerKnown(t *testing.T) {
	for s, want := range map[string]string{
		"a": "a", "A": "a", "aBcXyZ": "abcxyz", large: small, small: small, "Content-Type": "content-type",
		"@AZ[`az{": "@az[`az{", "0129!~": "0129!~", " A B ": " a b ", "\x00A\xff": "\x00a\xff",
		"É": "É", "\xc9": "\xc9", "Äa\xc4A": "Äa\xc4a", kelvin: kelvin, longS: longS, dotted + dotless: dotted + dotless,
		"Ａ": "Ａ", "Ω": "Ω", "\xff\xfeA\x80": "\xff\xfea\x80", "\xed\xa0\x80": "\xed\xa0\x80",
	} {
		checkLower(t, s, want)
	}
}

func TestLowerEachByte(t *testing.T) {
	for c := range 256 {
		want := one(c)
		if c >= 0x41 && c <= 0x5a {
			want = one(c + 0x20)
		}
		for _, around := range []string{"", "x", "\xc3", "é", "[@"} {
			checkLower(t, around+one(c)+around, around+want+around)
		}
	}
	checkLower(t, everyByte(), lowered(everyByte()))
}

func TestLowerLong(t *testing.T) {
	many := 100000
	checkLower(t, strings.Repeat("aB\xc9", many), strings.Repeat("ab\xc9", many))
}

// I1: Fold.

func TestFoldKnown(t *testing.T) {
	for _, row := range []struct {
		a, b string
		want bool
	}{
		{"a", "a", true}, {"a", "A", true}, {"A", "A", true}, {"Content-Type", "cONTENT-tYPE", true}, {large, small, true},
		{"a", "b", false}, {"a", "B", false}, {"ab", "aC", false}, {"ab", "ba", false},
		{"", "a", false}, {"", "\x00", false}, {"a", "aa", false}, {"a", "A ", false}, {"A", "a\x00", false}, {"ab", "b", false}, {"abc", "AB", false},
		{"@", "`", false}, {"[", "{", false}, {"\\", "|", false}, {"]", "}", false}, {"^", "~", false}, {"_", "\x7f", false},
		{"0", "\x10", false}, {" ", "\x00", false}, {"-", "\r", false}, {"a-b", "A-B", true}, {"a-b", "A\rB", false},
		{"\xe9", "\xc9", false}, {"é", "É", false}, {"é", "é", true}, {"É1a", "É1A", true}, {"\xff", "\xfe", false}, {"\xff", "\ufffd", false},
		{"k", kelvin, false}, {"K", kelvin, false}, {"s", longS, false}, {"S", longS, false}, {"i", dotted, false}, {"I", dotless, false}, {"å", "\u212b", false},
	} {
		checkFold(t, row.a, row.b, row.want)
	}
}

// TestFoldEachPair: each byte against each other one, alone and within.
func TestFoldEachPair(t *testing.T) {
	for c := range 256 {
		for d := range 256 {
			want := lowered(one(c)) == lowered(one(d))
			checkFold(t, one(c), one(d), want)
			checkFold(t, "x"+one(c)+"Y", "X"+one(d)+"y", want)
		}
	}
}

// TestFoldIsLower: what is told of two texts is told of their Lowers.
func TestFoldIsLower(t *testing.T) {
	texts := []string{}
	eachText("aA@`\xe1", 3, func(s string) { texts = append(texts, s) })
	for _, a := range texts {
		for _, b := range texts {
			checkFold(t, a, b, lowered(a) == lowered(b))
		}
	}
}

func TestFoldLong(t *testing.T) {
	many := 50000
	a, b := strings.Repeat("aB", many), strings.Repeat("Ab", many)
	checkFold(t, a, b, true)
	checkFold(t, a+"x", b+"y", false)
	checkFold(t, "x"+a, "y"+b, false)
	checkFold(t, a, b+"a", false)
}

// I2: Method.

// TestMethodEachCase: each method that is sent in large letters, in all ways to write it.
func TestMethodEachCase(t *testing.T) {
	for _, want := range sent {
		eachCase(want, func(s string) { checkMethod(t, s, want) })
	}
}

// TestMethodOthers: all other methods stay, in whatever letters.
func TestMethodOthers(t *testing.T) {
	for _, method := range append([]string{"PATCH", "PROPFIND", "LINK", "QUERY", "X"}, forbidden[:]...) {
		eachCase(method, func(s string) { checkMethod(t, s, s) })
	}
	for _, s := range []string{" ", "\x00", "get,post", "get post", "GET\x00", "géT", "\xff", "po" + longS + "t", "option" + longS, "opt" + dotless + "ons", "ＧＥＴ"} {
		checkMethod(t, s, s)
	}
}

// TestMethodNear: what is a letter more, a letter less, or another letter, is another method, and stays.
func TestMethodNear(t *testing.T) {
	for _, method := range sent {
		eachNear(method, func(s string) { checkMethod(t, s, s) })
	}
}

// TestMethodEachByte: each byte in each place of a method.
func TestMethodEachByte(t *testing.T) {
	for _, method := range sent {
		eachOther(method, func(s string, same bool) {
			if same {
				checkMethod(t, s, method)
			} else {
				checkMethod(t, s, s)
			}
		})
	}
}

// TestMethodAgain: a method as it is sent is sent so.
func TestMethodAgain(t *testing.T) {
	eachText("gGeEtT ", 4, func(s string) { checkMethod(t, Method(s), Method(s)) })
}

// eachNear hands texts that are near a method of large letters, in large letters and in small ones, to do.
func eachNear(method string, do func(s string)) {
	for _, m := range []string{method, lowered(method)} {
		for _, s := range []string{m[1:], m[:len(m)-1], m[:1] + m[2:], m + m[:1], m + m[len(m)-1:], m[:1] + m, "x" + m, m + "x", m + m, m[1:] + m[:1]} {
			do(s)
		}
		for at := range len(blankBytes) {
			blank := blankBytes[at : at+1]
			do(m + blank)
			do(blank + m)
			do(blank + m + blank)
			do(m[:1] + blank + m[1:])
		}
	}
}

// eachOther hands a method of large letters to do with each byte in each place, and whether it is the same but for large and small letters.
func eachOther(method string, do func(s string, same bool)) {
	for at := range len(method) {
		for c := range 256 {
			s := method[:at] + one(c) + method[at+1:]
			do(s, lowered(one(c)) == lowered(method[at:at+1]))
		}
	}
}

// I2: Never.

func TestNeverEachCase(t *testing.T) {
	for _, method := range forbidden {
		eachCase(method, func(s string) { checkNever(t, s, true) })
	}
}

func TestNeverOthers(t *testing.T) {
	for _, method := range append([]string{"PATCH", "TRAC", "TRAP", "CONNECTED", "X"}, sent[:]...) {
		eachCase(method, func(s string) { checkNever(t, s, false) })
	}
	for _, s := range []string{" ", "\x00", "trace,track", "TRACE TRACK", "TRACETRACK", "trac" + kelvin, "TRAC" + kelvin, "\xff", "cönnect"} {
		checkNever(t, s, false)
	}
}

func TestNeverNear(t *testing.T) {
	for _, method := range forbidden {
		eachNear(method, func(s string) { checkNever(t, s, false) })
	}
}

// TestNeverEachByte: each byte in each place of a method; TRACE and TRACK differ in one.
func TestNeverEachByte(t *testing.T) {
	for _, method := range forbidden {
		eachOther(method, func(s string, same bool) {
			l := lowered(s)
			checkNever(t, s, same || l == "trace" || l == "track")
		})
	}
}

func TestMethodsLong(t *testing.T) {
	for _, method := range append(sent[:], forbidden[:]...) {
		long := strings.Repeat(method, 100000)
		checkMethod(t, long, long)
		checkNever(t, long, false)
	}
}
