package percent

import (
	"fmt"
	"math"
	"regexp"
	"strconv"
	"strings"
	"testing"
)

// printable are the bytes from 20 to 7E that each set has, written out one by one; all sets have all other bytes.
var printable = [...]string{
	C0:       "",
	Fragment: "\x20\x22\x3c\x3e\x60",
	Query:    "\x20\x22\x23\x3c\x3e",
	Special:  "\x20\x22\x23\x27\x3c\x3e",
	Path:     "\x20\x22\x23\x3c\x3e\x3f\x5e\x60\x7b\x7d",
}

// noSets are numbers that are no set's.
var noSets = [...]int{0, 6, -1, 7, 255, 256, 257, -5, math.MaxInt, math.MinInt, math.MaxInt32, 1<<32 + 1, -1<<32 + 5}

// everyByte is a text of all 256 bytes, in their order.
func everyByte() string {
	b := make([]byte, 256)
	for c := range b {
		b[c] = byte(c)
	}
	return string(b)
}

// inSet is In as the chapter's words tell it.
func inSet(set int, c byte) bool {
	if set < 1 || set > 5 {
		return false
	}
	return c <= 0x1f || c >= 0x7f || strings.Contains(printable[set], string([]byte{c}))
}

// encoded is Encode as the chapter's words tell it.
func encoded(set int, s string) string {
	out := ""
	for _, c := range []byte(s) {
		if inSet(set, c) {
			out += fmt.Sprintf("%%%02X", c)
		} else {
			out += string([]byte{c})
		}
	}
	return out
}

var escape = regexp.MustCompile("%[0-9A-Fa-f][0-9A-Fa-f]")

// decoded is Decode as the chapter's words tell it.
func decoded(s string) string {
	return escape.ReplaceAllStringFunc(s, func(e string) string {
		c, err := strconv.ParseUint(e[1:], 16, 8)
		if err != nil {
			panic(err)
		}
		return string([]byte{byte(c)})
	})
}

// eachText hands all texts of at most size of these bytes to do.
func eachText(bytes string, size int, do func(s string)) {
	var more func(s string)
	more = func(s string) {
		do(s)
		if len(s) == size {
			return
		}
		for _, c := range []byte(bytes) {
			more(s + string([]byte{c}))
		}
	}
	more("")
}

// mixed is a text of size bytes, among which are many percent signs and digits.
func mixed(size int) string {
	all := "%%%%%%0123456789abcdefABCDEFgG@/:`" + everyByte()
	b := make([]byte, size)
	x := uint32(1)
	for i := range b {
		x = x*1664525 + 1013904223
		b[i] = all[int(x>>16)%len(all)]
	}
	return string(b)
}

// F1.

func TestNumbersOfSets(t *testing.T) {
	if got := [...]int{C0, Fragment, Query, Special, Path}; got != [...]int{1, 2, 3, 4, 5} {
		t.Errorf("the sets' numbers are %d", got)
	}
}

// TestInEach: each of the 256 bytes in each of the sets.
func TestInEach(t *testing.T) {
	for set := C0; set <= Path; set++ {
		for c := range 256 {
			if got, want := In(set, byte(c)), inSet(set, byte(c)); got != want {
				t.Errorf("In(%d, %02X): %t", set, c, got)
			}
		}
	}
}

// TestInCounts: so many bytes are in each set.
func TestInCounts(t *testing.T) {
	for set, want := range [...]int{0, 161, 166, 166, 167, 171, 0} {
		got := 0
		for c := range 256 {
			if In(set, byte(c)) {
				got++
			}
		}
		if got != want {
			t.Errorf("set %d has %d bytes, want %d", set, got, want)
		}
	}
}

// TestInEnds: where the bytes that all sets have end and begin.
func TestInEnds(t *testing.T) {
	for set := C0; set <= Path; set++ {
		for c, want := range map[byte]bool{0: true, 0x1f: true, 0x20: set != C0, 0x21: false, 0x7e: false, 0x7f: true, 0x80: true, 0xff: true} {
			if got := In(set, c); got != want {
				t.Errorf("In(%d, %02X): %t", set, c, got)
			}
		}
	}
}

// TestInSigns: the sets that have a sign, all others have it not.
func TestInSigns(t *testing.T) {
	for c, in := range map[byte][]int{
		' ': {Fragment, Query, Special, Path}, '"': {Fragment, Query, Special, Path},
		'<': {Fragment, Query, Special, Path}, '>': {Fragment, Query, Special, Path},
		'#': {Query, Special, Path}, '\'': {Special}, '`': {Fragment, Path},
		'?': {Path}, '^': {Path}, '{': {Path}, '}': {Path},
		'%': {}, '|': {}, '~': {}, '!': {}, '/': {}, ':': {}, '\\': {}, '@': {}, '[': {}, ']': {},
		'a': {}, 'Z': {}, '0': {}, '9': {},
	} {
		want := [7]bool{}
		for _, set := range in {
			want[set] = true
		}
		for set := range want {
			if got := In(set, c); got != want[set] {
				t.Errorf("In(%d, %q): %t", set, c, got)
			}
		}
	}
}

func TestInNoSet(t *testing.T) {
	for _, set := range noSets {
		for c := range 256 {
			if In(set, byte(c)) {
				t.Errorf("In(%d, %02X): true", set, c)
			}
		}
	}
}

// F2: Encode.

func TestEncodeExample(t *testing.T) {
	if got := Encode(Path, "a b%"); got != "a%20b%" {
		t.Errorf("Encode(Path, a b%%): %q", got)
	}
}

// TestEncodeKnown: a text with bytes of each set.
func TestEncodeKnown(t *testing.T) {
	s := "~\x1f !\"#$'<=>?@^_`{|}%aF9\x7f\xc3\xa9"
	for set, want := range [...]string{
		0:        s,
		C0:       "~%1F !\"#$'<=>?@^_`{|}%aF9%7F%C3%A9",
		Fragment: "~%1F%20!%22#$'%3C=%3E?@^_%60{|}%aF9%7F%C3%A9",
		Query:    "~%1F%20!%22%23$'%3C=%3E?@^_`{|}%aF9%7F%C3%A9",
		Special:  "~%1F%20!%22%23$%27%3C=%3E?@^_`{|}%aF9%7F%C3%A9",
		Path:     "~%1F%20!%22%23$'%3C=%3E%3F@%5E_%60%7B|%7D%aF9%7F%C3%A9",
		6:        s,
	} {
		if got := Encode(set, s); got != want {
			t.Errorf("Encode(%d):\n%q, want\n%q", set, got, want)
		}
	}
}

// TestEncodeEachByte: each byte alone, both its digits in upper case; and all behind each other.
func TestEncodeEachByte(t *testing.T) {
	for set := -1; set <= 7; set++ {
		for c := range 256 {
			s := string([]byte{byte(c)})
			if got, want := Encode(set, s), encoded(set, s); got != want {
				t.Errorf("Encode(%d, %q): %q, want %q", set, s, got, want)
			}
		}
		if got, want := Encode(set, everyByte()), encoded(set, everyByte()); got != want {
			t.Errorf("Encode(%d, every byte): %q, want %q", set, got, want)
		}
	}
}

func TestEncodeDigits(t *testing.T) {
	got := Encode(C0, "\x00\x01\x09\x0a\x0f\x10\x1a\x1f\x7f\x80\x9f\xa0\xab\xcd\xef\xf0\xf9\xff")
	if want := "%00%01%09%0A%0F%10%1A%1F%7F%80%9F%A0%AB%CD%EF%F0%F9%FF"; got != want {
		t.Errorf("%s, want %s", got, want)
	}
}

func TestEncodeNothing(t *testing.T) {
	for set := -1; set <= 7; set++ {
		if got := Encode(set, ""); got != "" {
			t.Errorf("Encode(%d) of no bytes: %q", set, got)
		}
	}
}

// TestEncodeAllOrNone: texts in which every byte is encoded, and such in which none is.
func TestEncodeAllOrNone(t *testing.T) {
	for set := C0; set <= Path; set++ {
		all, rest := "", ""
		for _, c := range []byte(everyByte()) {
			if inSet(set, c) {
				all += string([]byte{c})
			} else {
				rest += string([]byte{c})
			}
		}
		if got := Encode(set, all); len(got) != 3*len(all) || got != encoded(set, all) {
			t.Errorf("Encode(%d) of its bytes: %q", set, got)
		}
		if got := Encode(set, rest); got != rest {
			t.Errorf("Encode(%d) of no byte of it: %q", set, got)
		}
	}
}

func TestEncodeNoSet(t *testing.T) {
	for _, set := range noSets {
		if got := Encode(set, everyByte()); got != everyByte() {
			t.Errorf("Encode(%d): %q", set, got)
		}
	}
}

// TestEncodeIsIn: just the bytes that are in a set are encoded.
func TestEncodeIsIn(t *testing.T) {
	for set := -1; set <= 7; set++ {
		for c := range 256 {
			s := string([]byte{byte(c)})
			if got := Encode(set, s) != s; got != In(set, byte(c)) {
				t.Errorf("%02X is in set %d: %t, encoded: %t", c, set, !got, got)
			}
		}
	}
}

// F2: Decode.

func TestDecodeKnown(t *testing.T) {
	for s, want := range map[string]string{
		"":                  "",
		"abc":               "abc",
		"a%20b":             "a b",
		"%41%42":            "AB",
		"%4a%4A%aF%Af":      "JJ\xaf\xaf",
		"%00%ff%FF%7f":      "\x00\xff\xff\x7f",
		"%c3%A9":            "é",
		"é%20\xff":          "é \xff",
		"%":                 "%",
		"a%":                "a%",
		"%%":                "%%",
		"%%%":               "%%%",
		"%4":                "%4",
		"%a":                "%a",
		"%g":                "%g",
		"a%4":               "a%4",
		"%41%":              "A%",
		"%41%4":             "A%4",
		"%g1":               "%g1",
		"%1g":               "%1g",
		"%G1":               "%G1",
		"%1G":               "%1G",
		"% 1":               "% 1",
		"%1 ":               "%1 ",
		"%+1":               "%+1",
		"%-1":               "%-1",
		"%0x":               "%0x",
		"%x0":               "%x0",
		"%é1":               "%é1",
		"%4\x00":            "%4\x00",
		"%%41":              "%A",
		"%4%41":             "%4A",
		"%%%41":             "%%A",
		"%g%41":             "%gA",
		"%41%%42":           "A%B",
		"%4141":             "A41",
		"%2541":             "%41",
		"%25%34%31":         "%41",
		"%25":               "%",
		"%252541":           "%2541",
		"%2%35":             "%25",
		"%2%3541":           "%2541",
		"+":                 "+",
		"%u0041":            "%u0041",
		"%\uff14\uff11":     "%\uff14\uff11",
		"%4\x31%\x341%\xb4": "AA%\xb4",
	} {
		if got := Decode(s); got != want {
			t.Errorf("Decode(%q): %q, want %q", s, got, want)
		}
	}
}

// TestDecodeEachPair: whatever two bytes stand behind a percent sign.
func TestDecodeEachPair(t *testing.T) {
	for c := range 256 {
		for d := range 256 {
			s := string([]byte{'x', '%', byte(c), byte(d), 'y'})
			if got, want := Decode(s), decoded(s); got != want {
				t.Fatalf("Decode(%q): %q, want %q", s, got, want)
			}
		}
	}
}

// TestDecodeEachCut: what is cut off anywhere, with each byte behind the last percent sign.
func TestDecodeEachCut(t *testing.T) {
	s := "a%20%e9%%41%4%C3"
	for cut := range len(s) + 1 {
		if got, want := Decode(s[:cut]), decoded(s[:cut]); got != want {
			t.Errorf("Decode(%q): %q, want %q", s[:cut], got, want)
		}
	}
	for c := range 256 {
		s := "%" + string([]byte{byte(c)})
		if got := Decode(s); got != s {
			t.Errorf("Decode(%q): %q", s, got)
		}
	}
}

// TestDecodeEachByte: each byte is told by its digits, of either case.
func TestDecodeEachByte(t *testing.T) {
	for c := range 256 {
		want := string([]byte{byte(c)})
		for _, form := range []string{"%%%02x", "%%%02X"} {
			s := fmt.Sprintf(form, c)
			if got := Decode(s); got != want {
				t.Errorf("Decode(%s): %q", s, got)
			}
		}
		if want == "%" {
			continue
		}
		if got := Decode(want + want); got != want+want {
			t.Errorf("Decode(%q): %q", want+want, got)
		}
	}
}

// TestDecodeShortTexts: all texts of few bytes, among which percent signs and digits meet in every way.
func TestDecodeShortTexts(t *testing.T) {
	eachText("%25aFg\xff", 6, func(s string) {
		if got, want := Decode(s), decoded(s); got != want {
			t.Fatalf("Decode(%q): %q, want %q", s, got, want)
		}
	})
}

// What follows.

func TestFollowsShortTexts(t *testing.T) {
	eachText("%0aG ?\x7f", 5, func(s string) { follow(t, s) })
}

func TestFollowsLongTexts(t *testing.T) {
	follow(t, everyByte())
	for size := 1; size <= 1000; size += 37 {
		follow(t, mixed(size))
	}
	follow(t, mixed(100000))
	follow(t, strings.Repeat("%", 10000))
	follow(t, strings.Repeat("\x00", 10000))
}

// follow: what is encoded once stays so; Decode of Encode is Decode.
func follow(t *testing.T, s string) {
	for set := range 7 {
		once := Encode(set, s)
		if again := Encode(set, once); again != once {
			t.Fatalf("set %d: %q encoded again is %q", set, once, again)
		}
		if got, want := Decode(once), Decode(s); got != want {
			t.Fatalf("set %d: Decode of Encode of %q is %q, Decode %q", set, s, got, want)
		}
	}
}

// TestLongTexts: all of a long text is gone through.
func TestLongTexts(t *testing.T) {
	s := mixed(5000)
	for set := range 7 {
		if got := Encode(set, s); got != encoded(set, s) {
			t.Errorf("Encode(%d) of a long text is another one", set)
		}
	}
	if got := Decode(s); got != decoded(s) {
		t.Errorf("Decode of a long text is another one")
	}
	many := 1 << 20
	if got := Encode(C0, strings.Repeat("\xff", many)); got != strings.Repeat("%FF", many) {
		t.Errorf("Encode of %d bytes is another text", many)
	}
	if got := Decode(strings.Repeat("%fF", many)); got != strings.Repeat("\xff", many) {
		t.Errorf("Decode of %d bytes is another text", 3*many)
	}
}

// TestSameAnswers: a call has the same answer whatever was called ahead of it.
func TestSameAnswers(t *testing.T) {
	for range 3 {
		for set := Path; set >= -1; set-- {
			if got, want := Encode(set, everyByte()), encoded(set, everyByte()); got != want {
				t.Errorf("Encode(%d, every byte): %q, want %q", set, got, want)
			}
			if got := Decode("%20%"); got != " %" {
				t.Errorf("Decode(%%20%%): %q", got)
			}
		}
	}
}
