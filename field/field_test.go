package field

import (
	"slices"
	"strconv"
	"strings"
	"testing"

	"transept/token"
)

const (
	small = "abcdefghijklmnopqrstuvwxyz"
	large = "ABCDEFGHIJKLMNOPQRSTUVWXYZ"
)

// Letters of UTF-8 that a library folds into ASCII's: the Kelvin sign and the long s.
const (
	kelvin = "\u212a"
	longS  = "\u017f"
)

// one is the text of one byte.
func one(c int) string { return string([]byte{byte(c)}) }

// list is a list of headers: a name, a value, a name, a value, and so on.
func list(texts ...string) []Field {
	l := []Field{}
	for at := 0; at < len(texts); at += 2 {
		l = append(l, Field{Name: texts[at], Value: texts[at+1]})
	}
	return l
}

// eachList hands all lists of at most size of these fields to do.
func eachList(fields []Field, size int, do func(l []Field)) {
	var more func(l []Field)
	more = func(l []Field) {
		do(l)
		if len(l) == size {
			return
		}
		for _, f := range fields {
			more(append(slices.Clone(l), f))
		}
	}
	more(nil)
}

// eachCase hands a text of large letters and signs to do in all ways to write each of its letters small or large.
func eachCase(s string, do func(s string)) {
	for mask := range 1 << len(s) {
		b := []byte(s)
		for at, c := range b {
			if mask>>at&1 == 1 && c >= 'A' && c <= 'Z' {
				b[at] = small[c-'A']
			}
		}
		do(string(b))
	}
}

// lowered is a text in small letters, by the chapter's words.
func lowered(s string) string {
	out := ""
	for at := range len(s) {
		if letter := strings.Index(large, s[at:at+1]); letter >= 0 {
			out += small[letter : letter+1]
		} else {
			out += s[at : at+1]
		}
	}
	return out
}

// wordsValues are the values of all fields of a name, by the chapter's words.
func wordsValues(l []Field, name string) []string {
	out := []string{}
	for _, f := range l {
		if lowered(f.Name) == lowered(name) {
			out = append(out, f.Value)
		}
	}
	return out
}

// wordsNames is Names as the chapter's words tell it: the least name that is above the one ahead, again and again.
func wordsNames(l []Field) []string {
	out := []string{}
	for {
		next, found := "", false
		for _, f := range l {
			name := lowered(f.Name)
			above := len(out) == 0 || name > out[len(out)-1]
			if above && (!found || name < next) {
				next, found = name, true
			}
		}
		if !found {
			return out
		}
		out = append(out, next)
	}
}

// wordsGet is Get as the chapter's words tell it.
func wordsGet(l []Field, name string) (string, bool) {
	out, found := "", false
	for _, value := range wordsValues(l, name) {
		if found {
			out += ", "
		}
		out, found = out+value, true
	}
	return out, found
}

// checkGet: Get tells this value.
func checkGet(t *testing.T, l []Field, name, want string) {
	t.Helper()
	if got, is := Get(l, name); got != want || !is {
		t.Errorf("Get(%q, %q): %q, %t, want %q", l, name, got, is, want)
	}
}

// checkSplit: Split tells these parts.
func checkSplit(t *testing.T, l []Field, name string, want ...string) {
	t.Helper()
	if got, is := Split(l, name); !slices.Equal(got, want) || !is {
		t.Errorf("Split(%q, %q): %q, %t, want %q", l, name, got, is, want)
	}
}

// checkOnly: Only tells this value.
func checkOnly(t *testing.T, l []Field, name, want string) {
	t.Helper()
	if got, is := Only(l, name); got != want || !is {
		t.Errorf("Only(%q, %q): %q, %t, want %q", l, name, got, is, want)
	}
}

// checkNotOnly: there is not just one field of this name.
func checkNotOnly(t *testing.T, l []Field, name string) {
	t.Helper()
	if got, is := Only(l, name); got != "" || is {
		t.Errorf("Only(%q, %q): %q, %t", l, name, got, is)
	}
}

// checkNone: there is no field of this name.
func checkNone(t *testing.T, l []Field, name string) {
	t.Helper()
	if got, is := Get(l, name); got != "" || is {
		t.Errorf("Get(%q, %q): %q, %t", l, name, got, is)
	}
	if got, is := Split(l, name); len(got) != 0 || is {
		t.Errorf("Split(%q, %q): %q, %t", l, name, got, is)
	}
	checkNotOnly(t, l, name)
}

func checkNames(t *testing.T, l []Field, want ...string) {
	t.Helper()
	if got := Names(l); !slices.Equal(got, want) {
		t.Errorf("Names(%q): %q, want %q", l, got, want)
	}
}

// checkCombined: Combined tells this, and of this again the same.
func checkCombined(t *testing.T, l []Field, want ...string) {
	t.Helper()
	for _, from := range [][]Field{l, list(want...), Combined(l)} {
		if got := Combined(from); !slices.Equal(got, list(want...)) {
			t.Errorf("Combined(%q): %q, want %q", from, got, list(want...))
		}
	}
}

// checkWords: all calls tell of a list and a name what the chapter's words say.
func checkWords(t *testing.T, l []Field, name string) {
	t.Helper()
	value, is := wordsGet(l, name)
	if !is {
		checkNone(t, l, name)
		return
	}
	checkGet(t, l, name, value)
	checkSplit(t, l, name, token.Parts(value)...)
	if all := wordsValues(l, name); len(all) == 1 {
		checkOnly(t, l, name, all[0])
	} else {
		checkNotOnly(t, l, name)
	}
}

// checkWordsOfAll: Names and Combined tell of a list what the chapter's words say.
func checkWordsOfAll(t *testing.T, l []Field) {
	t.Helper()
	names := wordsNames(l)
	checkNames(t, l, names...)
	want := []string{}
	for _, name := range names {
		value, _ := wordsGet(l, name)
		want = append(want, name, value)
	}
	checkCombined(t, l, want...)
}

// checkSame: to all calls both names are one.
func checkSame(t *testing.T, a, b string) {
	t.Helper()
	checkGet(t, list(a, "1", "other", "x", b, "2"), b, "1, 2")
	checkSplit(t, list(a, "1", "other", "x", b, "2"), a, "1", "2")
	checkOnly(t, list(a, "1", "other", "x"), b, "1")
	checkNotOnly(t, list(a, "1", b, "1"), a)
	checkNames(t, list(a, "1", b, "2"), lowered(a))
	checkCombined(t, list(a, "1", b, "2"), lowered(b), "1, 2")
}

// checkUnlike: to all calls both names are two.
func checkUnlike(t *testing.T, a, b string) {
	t.Helper()
	checkNone(t, list(a, "1", a, "2"), b)
	checkNone(t, list(b, "1", b, "2"), a)
	l := list(a, "1", b, "2", a, "3")
	checkGet(t, l, a, "1, 3")
	checkGet(t, l, b, "2")
	checkSplit(t, l, a, "1", "3")
	checkOnly(t, l, b, "2")
	checkNotOnly(t, l, a)
	first, second := lowered(a), lowered(b)
	if first < second {
		checkNames(t, l, first, second)
		checkCombined(t, l, first, "1, 3", second, "2")
	} else {
		checkNames(t, l, second, first)
		checkCombined(t, l, second, "2", first, "1, 3")
	}
}

// J1.

func TestExample(t *testing.T) {
	l := list("a", "1", "b", "2", "A", "3")
	checkGet(t, l, "a", "1, 3")
	checkGet(t, l, "A", "1, 3")
	checkGet(t, l, "b", "2")
	checkSplit(t, l, "a", "1", "3")
	checkOnly(t, l, "B", "2")
	checkNotOnly(t, l, "a")
	checkNames(t, l, "a", "b")
	checkCombined(t, l, "a", "1, 3", "b", "2")
}

// TestHeaders: a list as a response has it.
func TestHeaders(t *testing.T) {
	l := list(
		"Content-Type", "text/html; charset=utf-8",
		"Vary", "Origin",
		"Access-Control-Allow-Origin", "https://a.example",
		"vary", "Accept-Encoding, Accept",
		"ETag", `"a,b"`,
		"Cache-Control", "max-age=60",
		"VARY", "",
	)
	checkGet(t, l, "vary", "Origin, Accept-Encoding, Accept, ")
	checkSplit(t, l, "Vary", "Origin", "Accept-Encoding", "Accept", "")
	checkNotOnly(t, l, "vary")
	checkGet(t, l, "content-type", "text/html; charset=utf-8")
	checkOnly(t, l, "access-control-allow-origin", "https://a.example")
	checkOnly(t, l, "CACHE-CONTROL", "max-age=60")
	checkSplit(t, l, "etag", `"a,b"`)
	for _, name := range []string{"Access-Control-Allow-Headers", "Access-Control", "Content-Typ", "Content-Types", "Content Type", "Var", "", " vary", "vary "} {
		checkNone(t, l, name)
	}
	checkNames(t, l, "access-control-allow-origin", "cache-control", "content-type", "etag", "vary")
	checkCombined(t, l,
		"access-control-allow-origin", "https://a.example",
		"cache-control", "max-age=60",
		"content-type", "text/html; charset=utf-8",
		"etag", `"a,b"`,
		"vary", "Origin, Accept-Encoding, Accept, ",
	)
}

func TestNoFields(t *testing.T) {
	for _, l := range [][]Field{nil, {}} {
		for _, name := range []string{"", "a", "A", "Content-Type", "\x00", "\xff", ", "} {
			checkNone(t, l, name)
		}
		checkNames(t, l)
		checkCombined(t, l)
	}
}

func TestOneField(t *testing.T) {
	for _, value := range []string{"", "1", " ", ",", "a, b", `"`, `"a,b",c`, "\t1 ", "\x00", "\xff", "é"} {
		l := list("Name", value)
		for _, name := range []string{"Name", "name", "NAME", "nAmE"} {
			checkGet(t, l, name, value)
			checkSplit(t, l, name, token.Parts(value)...)
			checkOnly(t, l, name, value)
		}
		for _, name := range []string{"", "Nam", "Names", "ame", " Name", "Name ", "Name\x00", "Nane", value} {
			checkNone(t, l, name)
		}
		checkNames(t, l, "name")
		checkCombined(t, l, "name", value)
	}
}

func TestManyOfOneName(t *testing.T) {
	l := []Field{}
	want := []string{}
	for at := range 1000 {
		name := []string{"name", "Name", "NAME", "nAMe"}[at%4]
		l = append(l, Field{Name: name, Value: strconv.Itoa(at)})
		want = append(want, strconv.Itoa(at))
		checkGet(t, l, "naMe", strings.Join(want, ", "))
		checkSplit(t, l, "NaMe", want...)
		if at == 0 {
			checkOnly(t, l, "name", "0")
		} else {
			checkNotOnly(t, l, "name")
		}
		checkNames(t, l, "name")
	}
	checkCombined(t, l, "name", strings.Join(want, ", "))
}

// TestOthersBetween: one field and three of a name, with others ahead, between and behind.
func TestOthersBetween(t *testing.T) {
	l := list("x", "0", "a", "1", "x", "2", "y", "3", "b", "4", "A", "5", "y", "6", "a", "7", "x", "8")
	checkGet(t, l, "a", "1, 5, 7")
	checkGet(t, l, "b", "4")
	checkGet(t, l, "x", "0, 2, 8")
	checkGet(t, l, "y", "3, 6")
	checkSplit(t, l, "A", "1", "5", "7")
	checkSplit(t, l, "B", "4")
	checkNames(t, l, "a", "b", "x", "y")
	checkCombined(t, l, "a", "1, 5, 7", "b", "4", "x", "0, 2, 8", "y", "3, 6")
}

// TestOrderOfValues: values stand as they come, not by size, and as often as they come.
func TestOrderOfValues(t *testing.T) {
	l := list("a", "3", "a", "1", "A", "2", "a", "1", "a", "10")
	checkGet(t, l, "a", "3, 1, 2, 1, 10")
	checkSplit(t, l, "a", "3", "1", "2", "1", "10")
	checkCombined(t, l, "a", "3, 1, 2, 1, 10")
}

// TestLetters: a name in all ways to write its letters, in the list and in the call.
func TestLetters(t *testing.T) {
	eachCase("AZ-M1", func(a string) {
		eachCase("AZ-M1", func(b string) { checkSame(t, a, b) })
	})
	checkSame(t, large, small)
	checkSame(t, "Content-Type", "cONTENT-tYPE")
	checkSame(t, "É1a\xff", "É1A\xff")
}

// TestEachPairOfBytes: names of one byte, and names that differ in one, are the same just if it is the same letter.
func TestEachPairOfBytes(t *testing.T) {
	for c := range 256 {
		for d := range 256 {
			a, b := "x"+one(c)+"Y", "X"+one(d)+"y"
			if lowered(one(c)) == lowered(one(d)) {
				checkSame(t, one(c), one(d))
				checkSame(t, a, b)
			} else {
				checkUnlike(t, one(c), one(d))
				checkUnlike(t, a, b)
			}
		}
	}
}

// TestUnlikeNames: bytes that are 32 more, but no letters; bytes above 7F, alone and as letters of UTF-8; names of which one is the other's beginning, or end.
func TestUnlikeNames(t *testing.T) {
	for _, row := range [][2]string{
		{"@", "`"}, {"[", "{"}, {"\\", "|"}, {"]", "}"}, {"^", "~"}, {"_", "\x7f"}, {"a-b", "A\rB"}, {"0", "\x10"}, {" ", "\x00"},
		{"\xe9", "\xc9"}, {"é", "É"}, {"\xff", "\xdf"}, {"\x80", "\xa0"}, {"\xff", "\xfe"}, {"\xff", "\ufffd"}, {"a\x80", "a\x81"},
		{"k", kelvin}, {"K", kelvin}, {"s", longS}, {"S", longS}, {"hos" + longS, "hoss"}, {"å", "\u212b"}, {"a", "Ａ"},
		{"", "a"}, {"", "\x00"}, {"", " "}, {"a", "aa"}, {"a", "A "}, {"a", "ab"}, {"ab", "b"}, {"a", "a\x00"}, {"A", "a-"}, {"content", "Content-Type"}, {"type", "Content-Type"},
	} {
		checkUnlike(t, row[0], row[1])
		checkUnlike(t, row[1], row[0])
	}
}

// TestEmptyName: it is a name like any other one, and the least.
func TestEmptyName(t *testing.T) {
	l := list("a", "1", "", "2", " ", "3", "", "4")
	checkGet(t, l, "", "2, 4")
	checkSplit(t, l, "", "2", "4")
	checkNotOnly(t, l, "")
	checkOnly(t, list("a", "1", "", "2"), "", "2")
	checkNames(t, l, "", " ", "a")
	checkCombined(t, l, "", "2, 4", " ", "3", "a", "1")
	checkNone(t, list("a", "1", " ", "2", "\x00", ""), "")
	checkCombined(t, list("", ""), "", "")
}

// TestValuesStay: a value is told byte by byte as it stands, whatever is in it.
func TestValuesStay(t *testing.T) {
	for _, value := range []string{"", " ", "\t", ",", ", ", ",,", `"`, `""`, `\`, `"a, b"`, " a ", "\ta\t", "a b", "A", "\r\n", "\x00", "\xff\xfe", "é", "Basic Zm9v"} {
		checkGet(t, list("a", value), "a", value)
		checkOnly(t, list("b", "1", "a", value), "A", value)
		checkGet(t, list("a", value, "a", value), "a", value+", "+value)
		checkGet(t, list("a", "1", "a", value, "a", "2"), "a", "1, "+value+", 2")
		checkCombined(t, list("A", "1", "a", value, "b", value), "a", "1, "+value, "b", value)
	}
	for c := range 256 {
		value := one(c) + "v" + one(c)
		checkGet(t, list("a", value, "b", "x", "a", value), "a", value+", "+value)
		checkOnly(t, list("a", value), "a", value)
		checkCombined(t, list("a", value), "a", value)
	}
}

func TestEmptyValues(t *testing.T) {
	checkGet(t, list("a", ""), "a", "")
	checkGet(t, list("a", "", "a", ""), "a", ", ")
	checkGet(t, list("a", "", "a", "", "a", ""), "a", ", , ")
	checkGet(t, list("a", "", "a", "1"), "a", ", 1")
	checkGet(t, list("a", "1", "a", ""), "a", "1, ")
	checkSplit(t, list("a", ""), "a", "")
	checkSplit(t, list("a", "", "a", ""), "a", "", "")
	checkSplit(t, list("a", "", "a", "1", "a", ""), "a", "", "1", "")
	checkOnly(t, list("a", ""), "a", "")
	checkNotOnly(t, list("a", "", "a", ""), "a")
	checkCombined(t, list("a", "", "A", ""), "a", ", ")
}

func TestSplitKnown(t *testing.T) {
	checkSplit(t, list("a", "1, 2,3"), "a", "1", "2", "3")
	checkSplit(t, list("a", "1, 2", "b", "x", "A", "3 ,\t4"), "a", "1", "2", "3", "4")
	checkSplit(t, list("a", `a, "b,c" ,d`), "a", "a", `"b,c"`, "d")
	checkSplit(t, list("a", `"1,2"`, "a", `"3,4"`), "a", `"1,2"`, `"3,4"`)
	checkSplit(t, list("a", " 1 ", "a", "\t2\t"), "a", "1", "2")
	checkSplit(t, list("a", "1,", "a", ",2"), "a", "1", "", "", "2")
	checkSplit(t, list("a", "1\n", "a", "\r2"), "a", "1\n", "\r2")
}

// TestSplitOpenQuotes: quotes that do not end in a value go on in the next one, so that what stands between the two lies within them.
func TestSplitOpenQuotes(t *testing.T) {
	checkSplit(t, list("a", `"1`, "a", `2`), "a", `"1, 2`)
	checkSplit(t, list("a", `"1`, "a", `2"`), "a", `"1, 2"`)
	checkSplit(t, list("a", `"1`, "b", `"`, "a", `2",3`), "a", `"1, 2"`, "3")
	checkSplit(t, list("a", `0,"1`, "a", `2`, "a", `3", 4`), "a", "0", `"1, 2, 3"`, "4")
	checkSplit(t, list("a", `"`, "a", `"`), "a", `", "`)
	checkSplit(t, list("a", `"`, "a", `"`, "a", `"`), "a", `", "`, `"`)
	checkSplit(t, list("a", `"1\`, "a", `",2`), "a", `"1\, "`, "2")
	checkSplit(t, list("a", `"1 `, "a", ` 2"`), "a", `"1 ,  2"`)
	checkSplit(t, list("a", `1\`, "a", `2`), "a", `1\`, "2")
}

func TestOnlyKnown(t *testing.T) {
	checkNotOnly(t, list(), "a")
	checkNotOnly(t, list("b", "1"), "a")
	checkOnly(t, list("a", "1"), "a", "1")
	checkOnly(t, list("b", "0", "A", "1, 2", "b", "3"), "a", "1, 2")
	checkNotOnly(t, list("a", "1", "a", "2"), "a")
	checkNotOnly(t, list("a", "1", "A", "1"), "a")
	checkNotOnly(t, list("a", "", "a", "1"), "a")
	checkNotOnly(t, list("a", "1", "a", ""), "a")
	checkNotOnly(t, list("a", "1", "b", "x", "a", "1"), "a")
	checkNotOnly(t, list("a", "1", "a", "2", "a", "3"), "a")
}

// TestNamesRise: byte by byte, by their small letters.
func TestNamesRise(t *testing.T) {
	checkNames(t, list("b", "", "A", "", "C", "", "a", ""), "a", "b", "c")
	checkNames(t, list("Z", "", "a", "", "_", "", "[", ""), "[", "_", "a", "z")
	checkNames(t, list("aa", "", "B", "", "A", "", "", "", "a-a", "", "AB", ""), "", "a", "a-a", "aa", "ab", "b")
	checkNames(t, list("\xff", "", "é", "", "z", "", "É", "", "\x80", "", "0", ""), "0", "z", "\x80", "É", "é", "\xff")
	checkNames(t, list("10", "", "9", "", "1", ""), "1", "10", "9")
	checkNames(t, list("k", "", kelvin, "", "K", ""), "k", kelvin)
}

// TestNamesOfAllBytes: the names of one byte, from behind, each twice.
func TestNamesOfAllBytes(t *testing.T) {
	l := []Field{}
	want := []string{}
	combined := []string{}
	for c := range 256 {
		l = append(l, Field{Name: one(255 - c), Value: "1"}, Field{Name: one(255 - c), Value: "2"})
		switch {
		case strings.Contains(large, one(c)):
		case strings.Contains(small, one(c)):
			want = append(want, one(c))
			combined = append(combined, one(c), "1, 2, 1, 2")
		default:
			want = append(want, one(c))
			combined = append(combined, one(c), "1, 2")
		}
	}
	checkNames(t, l, want...)
	checkCombined(t, l, combined...)
}

// TestCombinedInAnyOrder: of whatever order the names come in, they rise; the values of each stay in theirs.
func TestCombinedInAnyOrder(t *testing.T) {
	fields := list("B", "1", "a", "2", "b", "3", "C", "4", "A", "5")
	eachList(fields, len(fields), func(l []Field) {
		if len(l) == len(fields) {
			checkWordsOfAll(t, l)
		}
	})
	checkCombined(t, list("C", "4", "b", "3", "A", "5", "B", "1", "a", "2"), "a", "5, 2", "b", "3, 1", "c", "4")
}

// TestShortLists: all lists of few fields, in which names, letters, quotes and empty texts meet in every way.
func TestShortLists(t *testing.T) {
	fields := list("a", "1", "A", `"x,`, "b", "", "", ", ", "ab", `y"\`, "@", "1", "`", " z\t", "\xc1", "2", "\xe1", "1")
	names := []string{"a", "A", "b", "B", "", "ab", "aB", "@", "`", "\xc1", "\xe1", "c", "abc"}
	eachList(fields, 4, func(l []Field) {
		checkWordsOfAll(t, l)
		for _, name := range names {
			checkWords(t, l, name)
		}
	})
}

// TestCombinedFollows: combined again is the same; and what Get, Split and Names tell stays, combined.
func TestCombinedFollows(t *testing.T) {
	fields := list("B", "1", "a", `"`, "b", ", ", "", "", "A", `x"`)
	eachList(fields, 5, func(l []Field) {
		combined := Combined(l)
		again := Combined(combined)
		if !slices.Equal(combined, again) {
			t.Errorf("Combined(%q): %q, and again %q", l, combined, again)
		}
		checkNames(t, combined, Names(l)...)
		for _, name := range Names(l) {
			value, _ := Get(l, name)
			checkGet(t, combined, name, value)
			checkOnly(t, combined, name, value)
			parts, _ := Split(l, name)
			checkSplit(t, combined, name, parts...)
		}
	})
}

// TestHandedInStays: no call changes the list, not even behind its end; nor does who writes over an answer.
func TestHandedInStays(t *testing.T) {
	room := list("B", "1", "a", "2, 3", "b", `"4`, "A", "", "behind", "5")
	was := slices.Clone(room)
	l := room[:4]
	parts, _ := Split(l, "b")
	names := Names(l)
	combined := Combined(l)
	Get(l, "a")
	Only(l, "a")
	for _, answer := range [][]string{parts, names} {
		for at := range answer {
			answer[at] = "over"
		}
		_ = append(answer, "over")
	}
	for at := range combined {
		combined[at] = Field{Name: "over", Value: "over"}
	}
	_ = append(combined, Field{Name: "over"})
	if !slices.Equal(room, was) {
		t.Errorf("%q, was %q", room, was)
	}
	checkWordsOfAll(t, l)
	for _, name := range []string{"a", "b", "over", "behind"} {
		checkWords(t, l, name)
	}
}

// TestNothingKept: answers stay when the list is written over, and the next ones tell the new list.
func TestNothingKept(t *testing.T) {
	l := list("B", "1", "a", "2", "b", "3")
	names, combined := Names(l), Combined(l)
	parts, _ := Split(l, "b")
	copy(l, list("x", "7", "y", "8", "X", "9"))
	if !slices.Equal(names, []string{"a", "b"}) || !slices.Equal(combined, list("a", "2", "b", "1, 3")) || !slices.Equal(parts, []string{"1", "3"}) {
		t.Errorf("%q, %q, %q", names, combined, parts)
	}
	checkNames(t, l, "x", "y")
	checkCombined(t, l, "x", "7, 9", "y", "8")
	checkNone(t, l, "b")
	// A Combined that is combined already is new all the same.
	again := Combined(combined)
	combined[0] = Field{Name: "over", Value: "over"}
	if !slices.Equal(again, list("a", "2", "b", "1, 3")) {
		t.Errorf("%q", again)
	}
}

// TestSameAnswers: whatever way a map is gone through, the answers are the same.
func TestSameAnswers(t *testing.T) {
	l := []Field{}
	for at := range 100 {
		l = append(l, Field{Name: "N" + strconv.Itoa(at*37%100), Value: strconv.Itoa(at)})
	}
	names, combined := Names(l), Combined(l)
	for range 100 {
		checkNames(t, l, names...)
		if got := Combined(l); !slices.Equal(got, combined) {
			t.Fatalf("%q, was %q", got, combined)
		}
	}
	checkWordsOfAll(t, l)
}

func TestLongLists(t *testing.T) {
	many := 200000
	l := []Field{}
	for at := range many {
		l = append(l, Field{Name: "X" + strconv.Itoa(at), Value: strconv.Itoa(at)}, Field{Name: "same", Value: ","})
	}
	checkGet(t, l, "x199999", "199999")
	checkOnly(t, l, "x0", "0")
	checkNotOnly(t, l, "SAME")
	if parts, is := Split(l, "Same"); len(parts) != 2*many || !is {
		t.Errorf("%d parts, %t", len(parts), is)
	}
	names, combined := Names(l), Combined(l)
	if len(names) != many+1 || len(combined) != many+1 || names[0] != "same" || combined[1] != (Field{Name: "x0", Value: "0"}) {
		t.Fatalf("%d names, %d combined", len(names), len(combined))
	}
	for at, f := range combined {
		if f.Name != names[at] || at > 0 && names[at-1] >= names[at] {
			t.Fatalf("%q at %d, behind %q", f, at, names[at])
		}
	}
}
