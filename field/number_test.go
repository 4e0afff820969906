package field

import (
	"math"
	"regexp"
	"strconv"
	"strings"
	"testing"
)

// mosts are numbers that digits may tell at most.
var mosts = [...]int{math.MinInt, -1000000000, -10, -1, 0, 1, 5, 9, 10, 99, 100, 7200, 99999999, 999999998, 999999999, 1000000000, math.MaxInt32, math.MaxInt}

var numberForm = regexp.MustCompile(`^[0-9]{1,9}\z`)

// wordsNumber is Number as the chapter's words tell it.
func wordsNumber(s string, most int) (int, bool) {
	if !numberForm.MatchString(s) {
		return 0, false
	}
	n, err := strconv.ParseInt(s, 10, 64)
	if err != nil {
		panic(err)
	}
	if n > int64(most) {
		return most, true
	}
	return int(n), true
}

func checkNumber(t *testing.T, s string, most, want int) {
	t.Helper()
	if got, is := Number(s, most); got != want || !is {
		t.Errorf("Number(%q, %d): %d, %t, want %d", s, most, got, is, want)
	}
}

// checkNoNumber: these texts are none, whatever is most.
func checkNoNumber(t *testing.T, texts ...string) {
	t.Helper()
	for _, s := range texts {
		for _, most := range mosts {
			if got, is := Number(s, most); got != 0 || is {
				t.Errorf("Number(%q, %d): %d, %t", s, most, got, is)
			}
		}
	}
}

func checkNumberWords(t *testing.T, s string, most int) {
	t.Helper()
	if n, is := wordsNumber(s, most); is {
		checkNumber(t, s, most, n)
	} else if got, is := Number(s, most); got != 0 || is {
		t.Errorf("Number(%q, %d): %d, %t", s, most, got, is)
	}
}

// J2.

func TestNumberKnown(t *testing.T) {
	for s, want := range map[string]int{
		"0": 0, "1": 1, "5": 5, "9": 9, "10": 10, "42": 42, "600": 600, "7200": 7200, "86400": 86400,
		"123456789": 123456789, "999999999": 999999999, "100000000": 100000000, "987654321": 987654321,
		"00": 0, "01": 1, "007": 7, "000000000": 0, "000000001": 1, "012345678": 12345678, "010": 10,
	} {
		checkNumber(t, s, math.MaxInt, want)
		checkNumber(t, s, 999999999, want)
	}
}

// TestNumberHowMany: of one to nine digits, and no others, be they noughts.
func TestNumberHowMany(t *testing.T) {
	checkNoNumber(t, "")
	for size := 1; size <= 9; size++ {
		for _, digit := range []string{"0", "1", "5", "9"} {
			checkNumberWords(t, strings.Repeat(digit, size), math.MaxInt)
		}
		checkNumber(t, strings.Repeat("0", size-1)+"7", 100, 7)
	}
	for _, size := range []int{10, 11, 18, 19, 20, 40, 100000} {
		for _, digit := range []string{"0", "1", "9"} {
			checkNoNumber(t, strings.Repeat(digit, size))
		}
		checkNoNumber(t, strings.Repeat("0", size-1)+"7")
	}
	checkNoNumber(t, "1234567890", "0123456789", "4294967296", "18446744073709551616")
}

func TestNumberMost(t *testing.T) {
	checkNumber(t, "49", 50, 49)
	checkNumber(t, "50", 50, 50)
	checkNumber(t, "51", 50, 50)
	checkNumber(t, "0051", 50, 50)
	checkNumber(t, "7199", 7200, 7199)
	checkNumber(t, "7200", 7200, 7200)
	checkNumber(t, "7201", 7200, 7200)
	checkNumber(t, "999999999", 7200, 7200)
	checkNumber(t, "999999999", 999999998, 999999998)
	checkNumber(t, "999999999", 1000000000, 999999999)
	for _, most := range []int{1, 9, 10, 123, 99999, 123456789, 999999998} {
		for off := -1; off <= 1; off++ {
			checkNumber(t, strconv.Itoa(most+off), most, min(most+off, most))
		}
	}
}

// TestNumberNoMost: all digits tell more than a most below 0, and all but noughts more than 0.
func TestNumberNoMost(t *testing.T) {
	for _, s := range []string{"0", "000", "1", "5", "999999999", "000000001"} {
		checkNumber(t, s, 0, 0)
		for _, most := range []int{-1, -5, -999999999, math.MinInt32, math.MinInt} {
			checkNumber(t, s, most, most)
		}
	}
}

func TestNumberOthers(t *testing.T) {
	checkNoNumber(t,
		"-1", "+1", "-0", "+0", "-", "+", "--1", "1-", "1+", "1-2", "1+2",
		" 1", "1 ", "1 2", "\t1", "1\t", "\n1", "1\n", "1\r\n", " ", "\u00a01",
		".1", "1.", "1.0", ".", "1,0", ",1", "1,", "1_000", "_1", "1_",
		"a", "a1", "1a", "1a2", "0x1", "0X1", "x1", "0b1", "0o7", "1e3", "e1", "1e", "1f", "A1", "inf", "NaN",
		"\x00", "1\x00", "\x001", "1/", "/1", "1:", ":1", `"1"`, "1;2", "1=", "(1)", "1%",
		"１", "1１", "٣", "²", "½", "\xb1", "1\xb1", "\xff", "1\xff2", "\x80", "\xb9", "1é", "Ⅷ",
	)
}

// TestNumberEachByte: each byte alone, at each end, and within.
func TestNumberEachByte(t *testing.T) {
	for c := range 256 {
		for _, s := range []string{one(c), one(c) + "23", "12" + one(c), "1" + one(c) + "3", one(c) + one(c), "1234567" + one(c) + "9", "12345678" + one(c)} {
			if c >= 0x30 && c <= 0x39 {
				checkNumberWords(t, s, math.MaxInt)
				checkNumberWords(t, s, 10)
			} else {
				checkNoNumber(t, s)
			}
		}
	}
}

// TestNumberShortTexts: all texts of few bytes, digits and those beside them.
func TestNumberShortTexts(t *testing.T) {
	var each func(s string)
	each = func(s string) {
		for _, most := range []int{-1, 0, 8, 90, 1000, math.MaxInt} {
			checkNumberWords(t, s, most)
		}
		if len(s) == 4 {
			return
		}
		for _, c := range []byte("0189/:-\xb1") {
			each(s + string([]byte{c}))
		}
	}
	each("")
}

// TestNumberWritten: a number that is written is told, with noughts ahead, too.
func TestNumberWritten(t *testing.T) {
	for n := 0; n < 1000000000; n += 1 + n/1000 {
		s := strconv.Itoa(n)
		checkNumber(t, s, math.MaxInt, n)
		checkNumber(t, strings.Repeat("0", 9-len(s))+s, math.MaxInt, n)
	}
}
