package token

import (
	"regexp"
	"slices"
	"strings"
	"testing"
)

// partForm is a part as the chapter's words tell it: bytes that are neither commas nor quotes, and quotes, which the end of the value ends, too.
var partForm = regexp.MustCompile(`(?s)^(?:[^",]|"(?:[^"\\]|\\.)*(?:"|\\?\z))*`)

// wordsParts is Parts as the chapter's words tell it.
func wordsParts(s string) []string {
	out := []string{}
	for {
		size := len(partForm.FindString(s))
		out = append(out, trimmed(s[:size], "\x09\x20"))
		if size == len(s) {
			return out
		}
		s = s[size+1:]
	}
}

func checkParts(t *testing.T, s string, want ...string) {
	t.Helper()
	if got := Parts(s); !slices.Equal(got, want) {
		t.Errorf("Parts(%q): %q, want %q", s, got, want)
	}
}

// I3.

func TestPartsExample(t *testing.T) {
	checkParts(t, `a, "b,c" ,d`, `a`, `"b,c"`, `d`)
}

func TestPartsKnown(t *testing.T) {
	checkParts(t, "", "")
	checkParts(t, "a", "a")
	checkParts(t, "a,b", "a", "b")
	checkParts(t, "GET, PUT , DELETE", "GET", "PUT", "DELETE")
	checkParts(t, "a b,c\td", "a b", "c\td")
	checkParts(t, "text/html; charset=\"a,b\", text/plain;q=1", "text/html; charset=\"a,b\"", "text/plain;q=1")
	checkParts(t, "a,b,a,a", "a", "b", "a", "a")
	checkParts(t, "\xff,\x00,é", "\xff", "\x00", "é")
	checkParts(t, "a;b'c,d'(e,f)", "a;b'c", "d'(e", "f)")
}

func TestPartsEmptyOnes(t *testing.T) {
	checkParts(t, ",", "", "")
	checkParts(t, ",,", "", "", "")
	checkParts(t, ",,,", "", "", "", "")
	checkParts(t, ",a", "", "a")
	checkParts(t, "a,", "a", "")
	checkParts(t, "a,,b", "a", "", "b")
	checkParts(t, " ", "")
	checkParts(t, " \t\t ", "")
	checkParts(t, " , ", "", "")
	checkParts(t, "\t,\t ,", "", "", "")
	checkParts(t, `""`, `""`)
	checkParts(t, `"",""`, `""`, `""`)
}

// TestPartsEnds: of the blanks, the bytes 9 and 32 alone are left out at the ends.
func TestPartsEnds(t *testing.T) {
	checkParts(t, " a\t,\t b \t", "a", "b")
	checkParts(t, "\na\n,\rb\r", "\na\n", "\rb\r")
	checkParts(t, "\n, \r ,\r\n", "\n", "\r", "\r\n")
	checkParts(t, " \n a \r\t", "\n a \r")
	checkParts(t, "a\r\n ,\r\n b", "a\r\n", "\r\n b")
	checkParts(t, "\x00a\x00,\x0bb\x0c,\xa0c\u00a0", "\x00a\x00", "\x0bb\x0c", "\xa0c\u00a0")
	for c := range 256 {
		switch s := one(c); s {
		case ",":
			checkParts(t, s+"a"+s+",b", "", "a", "", "b")
		case `"`:
			checkParts(t, s+"a"+s+",b", `"a"`, "b")
		case "\t", " ":
			checkParts(t, s+"a"+s+","+s+s+"b", "a", "b")
		default:
			checkParts(t, s+"a"+s+",b"+s, s+"a"+s, "b"+s)
			checkParts(t, " "+s+"\t,\t"+s+" ", s, s)
		}
	}
}

func TestPartsQuotes(t *testing.T) {
	checkParts(t, `","`, `","`)
	checkParts(t, `"a,b"`, `"a,b"`)
	checkParts(t, `a"b,c"d,e`, `a"b,c"d`, `e`)
	checkParts(t, `"a,b"c"d,e",f`, `"a,b"c"d,e"`, `f`)
	checkParts(t, `"a""b,c",d`, `"a""b,c"`, `d`)
	checkParts(t, `"a"b,c"d"`, `"a"b`, `c"d"`)
	checkParts(t, `"a",b,"c"`, `"a"`, `b`, `"c"`)
	checkParts(t, `" a "`, `" a "`)
	checkParts(t, " \" a\t\" ,\t\"\t,b \"\t", "\" a\t\"", "\"\t,b \"")
	checkParts(t, `'a,b'`, `'a`, `b'`)
	checkParts(t, "a“b,c”", "a“b", "c”")
}

// TestPartsOpen: quotes that do not end hold all that is behind.
func TestPartsOpen(t *testing.T) {
	checkParts(t, `"`, `"`)
	checkParts(t, `a,"`, `a`, `"`)
	checkParts(t, `"a,b`, `"a,b`)
	checkParts(t, `a,"b,c`, `a`, `"b,c`)
	checkParts(t, `"a",b"c,d`, `"a"`, `b"c,d`)
	checkParts(t, `"a"",b`, `"a"",b`)
	checkParts(t, `"",",`, `""`, `",`)
	checkParts(t, `"""`, `"""`)
	checkParts(t, `""",a`, `""",a`)
	checkParts(t, `""""`, `""""`)
	checkParts(t, `"""",a`, `""""`, `a`)
	checkParts(t, " \"a, ", "\"a,") // the ends of a part are cut in any case
	checkParts(t, " \" \t", "\"")
}

// TestPartsBackslash: in quotes a \ takes the meaning from what is behind it, elsewhere it is like any other byte.
func TestPartsBackslash(t *testing.T) {
	checkParts(t, `"a\",b",c`, `"a\",b"`, `c`)
	checkParts(t, `"\"",a`, `"\""`, `a`)
	checkParts(t, `"\",a`, `"\",a`)
	checkParts(t, `"a\\",b`, `"a\\"`, `b`)
	checkParts(t, `"a\\\",b",c`, `"a\\\",b"`, `c`)
	checkParts(t, `"a\\\\",b`, `"a\\\\"`, `b`)
	checkParts(t, `"a\,b",c`, `"a\,b"`, `c`)
	checkParts(t, `"\a",b`, `"\a"`, `b`)
	checkParts(t, `"\é,",b`, `"\é,"`, `b`)
	checkParts(t, `a\,b`, `a\`, `b`)
	checkParts(t, `\,\`, `\`, `\`)
	checkParts(t, `\"a,b"`, `\"a,b"`)
	checkParts(t, `a\",b",c`, `a\",b"`, `c`)
	checkParts(t, `\",b`, `\",b`)
	checkParts(t, `\\,b`, `\\`, `b`)
	checkParts(t, `"a"\",b",c`, `"a"\",b"`, `c`)
	checkParts(t, `\`, `\`)
	checkParts(t, `a,\`, `a`, `\`)
	checkParts(t, `"\`, `"\`)
	checkParts(t, `"a,\`, `"a,\`)
	checkParts(t, `a,"b,\`, `a`, `"b,\`)
	checkParts(t, `"\\`, `"\\`)
	checkParts(t, `"a\ ,`, `"a\ ,`)
}

// TestPartsShortTexts: all texts of few bytes, in which commas, quotes, backslashes and gaps meet in every way.
func TestPartsShortTexts(t *testing.T) {
	eachText("a,\"\\ \t", 6, func(s string) { checkParts(t, s, wordsParts(s)...) })
	eachText(",\"\\\xe9\n", 6, func(s string) { checkParts(t, s, wordsParts(s)...) })
}

// TestPartsEachByte: just the comma cuts, out of quotes, and just quotes keep it from that.
func TestPartsEachByte(t *testing.T) {
	for c := range 256 {
		for d := range 256 {
			s := "a" + one(c) + "b,c" + one(d) + "d,\"e" + one(c) + "f" + one(d) + ",g"
			checkParts(t, s, wordsParts(s)...)
		}
	}
}

// TestPartsFollows: no part that stands in no quotes has a comma; and parts that are joined are parted into the same.
func TestPartsFollows(t *testing.T) {
	eachText("a,\"\\ \t", 6, func(s string) {
		parts := Parts(s)
		for _, part := range parts {
			if !strings.Contains(part, `"`) && strings.Contains(part, ",") {
				t.Errorf("Parts(%q): %q has a comma", s, part)
			}
		}
		if len(parts) == 0 {
			t.Fatalf("Parts(%q) is none", s)
		}
		checkParts(t, strings.Join(parts, ","), parts...)
		checkParts(t, strings.Join(parts, "\t, "), parts...)
	})
}

func TestPartsLong(t *testing.T) {
	many := 100000
	if got := Parts(strings.Repeat(",", many)); len(got) != many+1 {
		t.Errorf("%d parts of %d commas", len(got), many)
	}
	got := Parts(strings.Repeat(" a ,\"b,\",", many))
	if len(got) != 2*many+1 || got[0] != "a" || got[2*many-1] != "\"b,\"" || got[2*many] != "" {
		t.Errorf("%d parts of a long text", len(got))
	}
	inQuotes := "\"" + strings.Repeat(",\\\"", many)
	checkParts(t, inQuotes, inQuotes)
	open := strings.Repeat("\"", 2*many+1)
	checkParts(t, open+",a", open+",a")
	checkParts(t, open+"\",a", open+"\"", "a")
}

// TestPartsAreTheCallers: who writes over an answer changes no other one.
func TestPartsAreTheCallers(t *testing.T) {
	for _, s := range []string{"", "a", "a,b", ",,", `"a,b",c`} {
		want := wordsParts(s)
		got := Parts(s)
		for at := range got {
			got[at] = "x"
		}
		checkParts(t, s, want...)
	}
}
