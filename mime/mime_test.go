package mime

import (
	"regexp"
	"slices"
	"strings"
	"testing"

	"transept/field"
)

// The bytes of the chapters' words, written out one by one.
const (
	small      = "abcdefghijklmnopqrstuvwxyz"
	large      = "ABCDEFGHIJKLMNOPQRSTUVWXYZ"
	nameBytes  = large + small + "0123456789" + "!#$%&'*+-.^_" + "|~" + "\x60"
	blankBytes = "\x09\x0a\x0d\x20"
)

// Letters of UTF-8 that a library folds into ASCII's: the Kelvin sign and the long s.
const (
	kelvin = "\u212a"
	longS  = "\u017f"
)

// essenceForm is a text that has an essence, as the chapter's words tell it.
var essenceForm = regexp.MustCompile("(?s)^[\\x09\\x0a\\x0d\\x20]*([A-Za-z0-9!#$%&'*+.^_|~\\x60-]+/[A-Za-z0-9!#$%&'*+.^_|~\\x60-]+)[\\x09\\x0a\\x0d\\x20]*(?:;.*)?\\z")

// one is the text of one byte.
func one(c int) string { return string([]byte{byte(c)}) }

// lowered is a text in small letters, by the chapters' words.
func lowered(s string) string {
	out := ""
	for at := range len(s) {
		if letter := strings.Index(large, s[at:at+1]); letter >= 0 {
			out += small[letter : letter+1]
		} else {
			out += s[at : at+1]
		}
	}
	return out
}

// wordsEssence is Essence as the chapter's words tell it.
func wordsEssence(s string) (string, bool) {
	found := essenceForm.FindStringSubmatch(s)
	if found == nil {
		return "", false
	}
	return lowered(found[1]), true
}

// wordsOf is Of as the chapter's words tell it: going on from the first part, the last such stays.
func wordsOf(l []field.Field) (string, bool) {
	out, is := "", false
	parts, _ := field.Split(l, "content-type")
	for _, part := range parts {
		if s, has := wordsEssence(part); has && s != "*/*" {
			out, is = s, true
		}
	}
	return out, is
}

// eachText hands all texts of at most size of these pieces to do.
func eachText(pieces []string, size int, do func(s string)) {
	var more func(s string, left int)
	more = func(s string, left int) {
		do(s)
		if left == 0 {
			return
		}
		for _, piece := range pieces {
			more(s+piece, left-1)
		}
	}
	more("", size)
}

// eachList hands all lists of at most size of these fields to do.
func eachList(fields []field.Field, size int, do func(l []field.Field)) {
	var more func(l []field.Field)
	more = func(l []field.Field) {
		do(l)
		if len(l) == size {
			return
		}
		for _, f := range fields {
			more(append(slices.Clone(l), f))
		}
	}
	more(nil)
}

// eachCase hands a text of small letters and signs to do in all ways to write each of its letters small or large.
func eachCase(s string, do func(s string)) {
	for mask := range 1 << len(s) {
		b := []byte(s)
		for at, c := range b {
			if mask>>at&1 == 1 && c >= 'a' && c <= 'z' {
				b[at] = large[c-'a']
			}
		}
		do(string(b))
	}
}

// list is a list of headers: a name, a value, a name, a value, and so on.
func list(texts ...string) []field.Field {
	l := []field.Field{}
	for at := 0; at < len(texts); at += 2 {
		l = append(l, field.Field{Name: texts[at], Value: texts[at+1]})
	}
	return l
}

// typed is a list of content-types with these values.
func typed(values ...string) []field.Field {
	l := []field.Field{}
	for _, value := range values {
		l = append(l, field.Field{Name: "content-type", Value: value})
	}
	return l
}

// checkEssence: the text has this essence, which is its own.
func checkEssence(t *testing.T, s, want string) {
	t.Helper()
	for _, from := range []string{s, want} {
		if got, is := Essence(from); got != want || !is {
			t.Errorf("Essence(%q): %q, %t, want %q", from, got, is, want)
		}
	}
}

// checkNoEssence: these texts have none.
func checkNoEssence(t *testing.T, texts ...string) {
	t.Helper()
	for _, s := range texts {
		if got, is := Essence(s); got != "" || is {
			t.Errorf("Essence(%q): %q, %t", s, got, is)
		}
	}
}

// checkEssenceWords: Essence tells of a text what the chapter's words say.
func checkEssenceWords(t *testing.T, s string) {
	t.Helper()
	if want, is := wordsEssence(s); is {
		checkEssence(t, s, want)
	} else {
		checkNoEssence(t, s)
	}
}

// checkOf: of the list this essence counts.
func checkOf(t *testing.T, l []field.Field, want string) {
	t.Helper()
	if got, is := Of(l); got != want || !is {
		t.Errorf("Of(%q): %q, %t, want %q", l, got, is, want)
	}
}

// checkNotOf: of the list none counts.
func checkNotOf(t *testing.T, l []field.Field) {
	t.Helper()
	if got, is := Of(l); got != "" || is {
		t.Errorf("Of(%q): %q, %t", l, got, is)
	}
}

// checkOfWords: Of tells of a list what the chapter's words say.
func checkOfWords(t *testing.T, l []field.Field) {
	t.Helper()
	if want, is := wordsOf(l); is {
		checkOf(t, l, want)
	} else {
		checkNotOf(t, l)
	}
}

// K1.

func TestEssenceExample(t *testing.T) {
	checkEssence(t, "Text/HTML; charset=x", "text/html")
}

func TestEssenceKnown(t *testing.T) {
	checkEssence(t, "text/html", "text/html")
	checkEssence(t, "text/plain;charset=utf-8", "text/plain")
	checkEssence(t, "application/x-www-form-urlencoded", "application/x-www-form-urlencoded")
	checkEssence(t, "multipart/form-data; boundary=\"a;b/c\"", "multipart/form-data")
	checkEssence(t, "image/svg+xml", "image/svg+xml")
	checkEssence(t, "application/vnd.api+json ; a=b; c=d", "application/vnd.api+json")
	checkEssence(t, "*/*", "*/*")
	checkEssence(t, "*/*;q=0.8", "*/*")
	checkEssence(t, " */* ", "*/*")
	checkEssence(t, "text/*", "text/*")
	checkEssence(t, "*/html", "*/html")
	checkNoEssence(t, "text", "html; charset=x", "text\\html", "text html", "text:html", "text/html, text/plain", `"text/html"`, "*", "**")
}

func TestEssenceOfLittle(t *testing.T) {
	checkNoEssence(t, "", "/", ";", " ", "\t\n\r ", "/;", ";/", " / ", " ; ", "//", ";;", "a", "a;", ";a", "a ")
}

func TestEssenceSlashes(t *testing.T) {
	checkEssence(t, "a/b", "a/b")
	checkNoEssence(t, "ab", "/ab", "ab/", "/a/b", "a/b/", "a//b", "a/b/c", "a/b/c/d", "//a/b", "a/b//")
	checkNoEssence(t, " /b", "a/ ", "\t/b\n", "\ra/ ;", " / b", "a / ")
}

// TestEssenceSlashBehind: a slash that stands behind the first semicolon is none.
func TestEssenceSlashBehind(t *testing.T) {
	checkNoEssence(t, "a;/b", "a;b/c", ";a/b", "a;b;c/d", " ;a/b", "a ; /b", "/;b", "a/;b", "a/ ;b", "/b;c", "a;/")
	checkEssence(t, "a/b;/", "a/b")
	checkEssence(t, "a/b;c/d", "a/b")
	checkEssence(t, "a/b;c/d;e/f", "a/b")
	checkNoEssence(t, "a/b/c;d", "a/b/;d", "/a/b;d")
}

// TestEssenceSemicolons: whatever stands behind the first one tells nothing, not even in quotes.
func TestEssenceSemicolons(t *testing.T) {
	for _, behind := range []string{"", ";", ";;", ";c", "; c=d", ";c;d", " ;c", " ; c ; d ", ";c/d", ";\x00", ";\xff\n", ";\"", ";\"c", ";,", ";a/b"} {
		checkEssence(t, "a/b"+behind, "a/b")
		checkEssence(t, "A/B "+behind, "a/b")
		checkNoEssence(t, ";a/b"+behind, " ;a/b"+behind, "a;/b"+behind, "a"+behind, "a/"+behind, "/b"+behind)
	}
	checkNoEssence(t, `a/"b;c"`, `"a/b;c"`, `"a;b"/c`, `a\;/b`, `a/b\;c`)
}

// TestEssenceBlanks: at both ends of what stands ahead of the semicolon blanks are left out, and there alone.
func TestEssenceBlanks(t *testing.T) {
	for at := range len(blankBytes) {
		b := blankBytes[at : at+1]
		checkEssence(t, b+"a/b", "a/b")
		checkEssence(t, "a/b"+b, "a/b")
		checkEssence(t, b+b+"a/b"+b+b, "a/b")
		checkEssence(t, "a/b"+b+";c", "a/b")
		checkEssence(t, b+"a/b"+b+";"+b+"c"+b, "a/b")
		checkEssence(t, blankBytes+b+"a/b"+b+blankBytes, "a/b")
		checkNoEssence(t, "a"+b+"/b", "a/"+b+"b", "a"+b+"/"+b+"b", "a"+b+"a/b", "a/b"+b+"b", b+"a"+b+"a/b"+b, "a/b"+b+"c;d")
		checkNoEssence(t, b, b+"/b", "a/"+b, b+"/"+b, b+";a/b", "a/b"+b+"/c")
	}
	checkEssence(t, " a/b ; c=d", "a/b")
}

// TestEssenceOtherEnds: no other byte is left out at the ends, be it a blank elsewhere.
func TestEssenceOtherEnds(t *testing.T) {
	for _, b := range []string{"\x00", "\x0b", "\x0c", "\x08", "\x0e", "\x1f", "\x7f", "\x85", "\xa0", "\u0085", "\u00a0", "\u2003", "\u3000", "\ufeff", ",", "\""} {
		checkNoEssence(t, b+"a/b", "a/b"+b, "a/b"+b+";c", b+" a/b", "a/b "+b, "a"+b+"/b", "a/"+b+"b")
	}
}

// TestEssenceEachByte: each byte as a name, and at each place of one, on either side of the slash.
func TestEssenceEachByte(t *testing.T) {
	count := 0
	for c := range 256 {
		s := one(c)
		for _, text := range []string{s + "/x", "x/" + s, s + "/" + s, "x" + s + "y/z", "x/y" + s + "z"} {
			checkEssenceWords(t, text)
			if strings.Contains(nameBytes, s) {
				checkEssence(t, text, lowered(text))
				count++
			}
		}
		for _, text := range []string{s + "xy/z", "xy" + s + "/z", "x/" + s + "yz", "x/yz" + s, s + s, s + "/", "/" + s, s, s + ";x/y", "x" + s + "y", "x/y" + s + "/z"} {
			checkEssenceWords(t, text)
		}
	}
	if count != 77*5 {
		t.Errorf("%d texts of bytes that names have, want %d", count, 77*5)
	}
}

// TestEssenceTwoBytes: each pair of bytes, as the names and about the slash.
func TestEssenceTwoBytes(t *testing.T) {
	for c := range 256 {
		for d := range 256 {
			checkEssenceWords(t, one(c)+"/"+one(d))
			checkEssenceWords(t, "a"+one(c)+one(d)+"b")
		}
	}
}

func TestEssenceLetters(t *testing.T) {
	checkEssence(t, large+"/"+small, small+"/"+small)
	checkEssence(t, small+"/"+large, small+"/"+small)
	eachCase("text/html", func(s string) {
		checkEssence(t, s, "text/html")
		checkEssence(t, "\n"+s+" ;A=B", "text/html")
	})
}

// TestEssenceNoLetters: bytes that differ by 32 but are no letters stay, and what is folded elsewhere is no name.
func TestEssenceNoLetters(t *testing.T) {
	checkEssence(t, "^/~", "^/~")
	checkEssence(t, "~/^", "~/^")
	checkEssence(t, "_/`", "_/`")
	checkEssence(t, "`/_", "`/_")
	checkEssence(t, "0!#$%&'*+-.^_|~`9/`~|_^.-+*'&%$#!", "0!#$%&'*+-.^_|~`9/`~|_^.-+*'&%$#!")
	checkNoEssence(t, "@/a", "a/[", "{/a", "a/\\", "|/]", "a/}", "\x7f/a", "a/\x10")
	checkNoEssence(t, "\xc1/a", "a/\xe1", "é/a", "a/É", kelvin+"/a", "a/"+kelvin, longS+"/a", "a/"+longS, "a\x80/b", "a/b\xff", "Ａ/a", "a／b", "a/b；c", "a\u2215b")
}

// TestEssenceShortTexts: all texts of few bytes, in which slashes, semicolons, blanks and letters meet in every way.
func TestEssenceShortTexts(t *testing.T) {
	eachText([]string{"a", "B", "/", ";", " ", "\r", "\xe1"}, 6, func(s string) { checkEssenceWords(t, s) })
	eachText([]string{"*", "`", "/", ";", "\t", "\n", ",", "\""}, 5, func(s string) { checkEssenceWords(t, s) })
}

func TestEssenceLong(t *testing.T) {
	long := strings.Repeat(nameBytes, 10000)
	want := strings.Repeat(lowered(nameBytes), 10000)
	checkEssence(t, long+"/"+long, want+"/"+want)
	checkEssence(t, strings.Repeat(blankBytes, 100000)+long+"/x"+strings.Repeat(blankBytes, 100000)+";"+long, want+"/x")
	checkNoEssence(t, long, long+"/"+long+"/", long+"/"+long+"\xff", strings.Repeat("/", 100000), strings.Repeat(";", 100000), strings.Repeat(blankBytes, 100000))
}

// K2.

func TestOfNothing(t *testing.T) {
	checkNotOf(t, nil)
	checkNotOf(t, []field.Field{})
	checkNotOf(t, list("", ""))
	checkNotOf(t, list("", "a/b"))
}

// TestOfOthers: other names tell nothing of the content.
func TestOfOthers(t *testing.T) {
	others := []string{"accept", "content", "type", "content-types", "xcontent-type", "content_type", "content type", " content-type", "content-type ", "content-type:", "content-typ", "content-type\x00", "content-encoding", "x-content-type-options", "content\rtype"}
	for _, name := range others {
		checkNotOf(t, list(name, "a/b"))
		checkOf(t, list(name, "a/b", "content-type", "c/d", name, "e/f"), "c/d")
		checkNotOf(t, list(name, "a/b", "content-type", "c", name, "e/f"))
	}
}

func TestOfOne(t *testing.T) {
	checkOf(t, typed("a/b"), "a/b")
	checkOf(t, typed("Text/HTML; charset=x"), "text/html")
	checkOf(t, typed(" A/B "), "a/b")
	checkOf(t, list("x", "c/d", "content-type", "a/b", "y", "e/f"), "a/b")
	for _, value := range []string{"", " ", ",", ", ,", ";", "/", "a", "a/", "/b", "a/b/c", "a /b", "*/*", "a b, c", `"a/b"`} {
		checkNotOf(t, typed(value))
	}
}

func TestOfName(t *testing.T) {
	eachCase("content-type", func(name string) {
		checkOf(t, list(name, "a/b"), "a/b")
		checkOf(t, list("content-type", "a/b", name, "c/d"), "c/d")
		checkOf(t, list(name, "a/b", "CONTENT-TYPE", "*/*"), "a/b")
	})
}

// TestOfLast: of several that count, the last; what has none leaves those ahead of it.
func TestOfLast(t *testing.T) {
	checkOf(t, typed("a/b, c/d"), "c/d")
	checkOf(t, typed("c/d, a/b"), "a/b")
	checkOf(t, typed("a/b", "c/d"), "c/d")
	checkOf(t, typed("c/d", "a/b"), "a/b")
	checkOf(t, typed("a/b, c/d", "e/f, g/h"), "g/h")
	checkOf(t, typed("a/b, c/d", "x"), "c/d")
	checkOf(t, typed("a/b, c/d", "", ",", "/"), "c/d")
	checkOf(t, typed("x, a/b, y", "z"), "a/b")
	checkOf(t, typed("x", "y, z/", "/, A/B"), "a/b")
	checkOf(t, typed("a/b;c", "d;e/f"), "a/b")
	checkOf(t, typed("a/b", "a/b"), "a/b")
	checkOf(t, list("content-type", "a/b", "x", "c/d", "Content-Type", "e/f", "y", "g/h"), "e/f")
	checkNotOf(t, typed("x", "y, z", ""))
}

// TestOfAnything: */* never counts, however it is written; what is only like it does.
func TestOfAnything(t *testing.T) {
	for _, star := range []string{"*/*", " */* ", "*/*\t", "\r\n*/*", "*/*;q=1", "*/* ; a/b", "\t*/*\n;", "*/*;", `*/*;a=","`} {
		checkNotOf(t, typed(star))
		checkNotOf(t, typed(star, star))
		checkNotOf(t, typed(star+","+star))
		checkNotOf(t, typed(star+", x", star, "y"))
		checkOf(t, typed(star, "a/b"), "a/b")
		checkOf(t, typed("a/b", star), "a/b")
		checkOf(t, typed(star, "a/b", star), "a/b")
		checkOf(t, typed("a/b", star, "c/d"), "c/d")
		checkOf(t, typed("a/b", star, "c"), "a/b")
		checkOf(t, typed(star+",a/b"), "a/b")
		checkOf(t, typed("a/b,"+star), "a/b")
		checkOf(t, typed(star+",a/b,"+star), "a/b")
		checkOf(t, typed("a/b,"+star+",c/d"), "c/d")
		checkOf(t, typed("a/b,"+star+",c,"+star), "a/b")
	}
	for _, like := range []string{"*/a", "a/*", "**/*", "*/**", "*/+", "*./*"} {
		checkOf(t, typed("a/b", like), like)
		checkOf(t, typed("a/b, "+like), like)
		checkOf(t, typed(like, "*/*"), like)
	}
	checkOf(t, typed("a/b", "*/* *", "* /*", "*/ *", "*/*/*", "*"), "a/b")
}

// TestOfQuotes: what stands in quotes cuts no parts; a semicolon ends an essence all the same.
func TestOfQuotes(t *testing.T) {
	checkOf(t, typed(`a/b;c="d,e/f"`), "a/b")
	checkOf(t, typed(`a/b;c="d,e/f",g/h`), "g/h")
	checkOf(t, typed(`a/b;c="d\",e/f"`), "a/b")
	checkOf(t, typed(`a/b;c="d\\",e/f`), "e/f")
	checkOf(t, typed(`a/b;c='d,e/f'`), "e/f'") // ' quotes nothing, and a name may have it
	checkOf(t, typed(`a/b;c=d\,e/f`), "e/f")
	checkOf(t, typed(`a/b;c=";,x",y`), "a/b")
	checkOf(t, typed(`a/b, "c/d;e"`), "a/b")
	checkOf(t, typed(`a/b, c/"d;e"`), "a/b")
	checkOf(t, typed(`a/b, "c;d"/e`), "a/b")
	checkOf(t, typed(`a/b, ";c/d,e/f"`), "a/b")
	checkNotOf(t, typed(`"a/b"`))
	checkNotOf(t, typed(`"x,a/b"`))
	checkNotOf(t, typed(`"x,a/b,y"`))
}

// TestOfOpenQuotes: quotes that do not end go on in the next value, so that what stands between the two lies within them.
func TestOfOpenQuotes(t *testing.T) {
	checkOf(t, typed(`a/b;c="d`, "e/f"), "a/b")
	checkOf(t, typed(`a/b;c="`, "e/f", "g/h"), "a/b")
	checkOf(t, typed(`a/b;c="d`, `e/f"`, "g/h"), "g/h")
	checkOf(t, typed(`a/b;c="d`, `e/f",g/h`), "g/h")
	checkOf(t, typed(`a/b;c="d`, `",e/f`), "e/f")
	checkOf(t, typed(`a/b;c="d\`, `",e/f`), "e/f") // it is the comma behind the value that the \ stands ahead of
	checkOf(t, typed(`a/b;c="d`, `\",e/f`), "a/b")
	checkOf(t, typed(`a/b;c="d`, "*/*"), "a/b")
	checkOf(t, typed("a/b", `"`, "c/d"), "a/b")
	checkOf(t, typed("a/b", `"`, `"c/d`), "a/b")
	checkOf(t, typed("a/b", `"`, `"`, "c/d"), "c/d")
	checkOf(t, list("content-type", `a/b;c="`, "x", `"`, "content-type", "d/e"), "a/b")
	checkNotOf(t, typed(`"`, "a/b"))
	checkNotOf(t, typed(`*/*;c="`, "a/b"))
	checkNotOf(t, typed(`x"`, "a/b", `c/d"`))
}

// TestOfShortLists: all lists of few fields, in which every kind of value meets the others in every order.
func TestOfShortLists(t *testing.T) {
	fields := list("content-type", "a/b", "Content-Type", " C/D ;x", "content-type", "*/*", "CONTENT-TYPE", "*/* ;q", "content-type", "x", "content-type", "", "content-type", "e/f, g/", "content-type", "/, */*, h/i", "content-type", `j/k;l="`, "accept", "m/n")
	eachList(fields, 4, func(l []field.Field) { checkOfWords(t, l) })
}

// TestOfShortValues: all values of few pieces.
func TestOfShortValues(t *testing.T) {
	eachText([]string{"a/b", "C/D", "*/*", "x", ",", ";", `"`, `\`, " "}, 5, func(s string) { checkOfWords(t, typed(s)) })
	eachText([]string{"a", "/", ",", ";", `"`, "*", "\n"}, 5, func(s string) {
		checkOfWords(t, typed(s))
		checkOfWords(t, typed("c/d", s, "*/*"))
	})
}

// TestOfFollows: what counts is an essence, its own; and it counts in a list of it alone.
func TestOfFollows(t *testing.T) {
	eachText([]string{"A/b", "*/*", "c/D;e", "x", ",", `"`, " "}, 5, func(s string) {
		essence, is := Of(typed(s))
		if !is {
			return
		}
		checkEssence(t, essence, essence)
		checkOf(t, typed(essence), essence)
		checkOf(t, field.Combined(typed(s)), essence)
		checkOf(t, typed(essence, "*/*", "x"), essence)
	})
}

// TestHandedInStays: the list stays as it was, and what is answered stays when the list is written over.
func TestHandedInStays(t *testing.T) {
	room := list("Content-Type", " A/B ;c", "x", "y", "content-type", "C/D, */*", "content-type", "e/f")
	was := slices.Clone(room)
	l := room[:3]
	got, is := Of(l)
	if !slices.Equal(room, was) {
		t.Errorf("%q, was %q", room, was)
	}
	copy(room, typed("over/over", "over", "*/*"))
	if got != "c/d" || !is {
		t.Errorf("%q, %t", got, is)
	}
	checkOf(t, l, "over/over")
	checkOf(t, room, "e/f")
}

// TestSameAnswers: nothing is kept from call to call.
func TestSameAnswers(t *testing.T) {
	for range 100 {
		checkEssence(t, "Text/HTML; charset=x", "text/html")
		checkNoEssence(t, "text")
		checkOf(t, typed("a/b, c/d", "*/*"), "c/d")
		checkNotOf(t, typed("*/*"))
		checkNotOf(t, nil)
	}
}

func TestOfLong(t *testing.T) {
	many := 100000
	l := typed("a/b")
	for range many {
		l = append(l, typed("*/*", "x, ;c/d")...)
	}
	checkOf(t, l, "a/b")
	checkOf(t, append(l, typed("E/F")...), "e/f")
	checkNotOf(t, l[1:])
	checkOf(t, typed("a/b"+strings.Repeat(",*/*", many)), "a/b")
	checkOf(t, typed("a/b;\""+strings.Repeat(",c/d", many)), "a/b")
}
