package host

import (
	"fmt"
	"math/big"
	"net/netip"
	"regexp"
	"strings"
	"testing"

	"transept/api"
)

// What the chapter's words say of a part, to each base, of digits, of what is decoded, and of bytes that may not be.
var (
	sixteenForm = regexp.MustCompile(`^0[xX][0-9a-fA-F]*$`)
	eightForm   = regexp.MustCompile(`^0[0-7]+$`)
	tenForm     = regexp.MustCompile(`^(0|[1-9][0-9]*)$`)
	digitsForm  = regexp.MustCompile(`^[0-9]+$`)
	escapeForm  = regexp.MustCompile(`%[0-9A-Fa-f]{2}`)
	barredForm  = regexp.MustCompile(`[^\x21-\x7e]|[#%/:<>?@\[\\\]^|]`)
)

// answer4 is all that IPv4 answers.
type answer4 struct {
	n  uint32
	is bool
	e  api.Errno
}

var (
	none4   = answer4{0, false, api.OK}
	wrong4  = answer4{0, true, api.ErrURL}
	nothing = [8]uint16{}
)

func right4(n uint32) answer4 { return answer4{n, true, api.OK} }

func ask4(s string) answer4 {
	n, is, e := IPv4(s)
	return answer4{n, is, e}
}

func check4(t *testing.T, s string, want answer4) {
	t.Helper()
	if got := ask4(s); got != want {
		t.Errorf("IPv4(%q): %v, want %v", s, got, want)
	}
}

// told is what a part tells, nil if it is no number, by the chapter's words.
func told(part string) *big.Int {
	digits, base := "", 0
	switch {
	case sixteenForm.MatchString(part):
		digits, base = "0"+part[2:], 16
	case eightForm.MatchString(part):
		digits, base = part, 8
	case tenForm.MatchString(part):
		digits, base = part, 10
	default:
		return nil
	}
	n, ok := new(big.Int).SetString(digits, base)
	if !ok {
		panic(part)
	}
	return n
}

// words4 is IPv4 as the chapter's words tell it.
func words4(s string) answer4 {
	parts := strings.Split(s, ".")
	if len(parts) > 1 && strings.HasSuffix(s, ".") {
		parts = parts[:len(parts)-1]
	}
	ahead, last := parts[:len(parts)-1], parts[len(parts)-1]
	if !digitsForm.MatchString(last) && told(last) == nil {
		return none4
	}
	if len(parts) > 4 || told(last) == nil {
		return wrong4
	}
	sum := big.NewInt(0)
	for i, part := range ahead {
		n := told(part)
		if n == nil || n.Cmp(big.NewInt(255)) > 0 {
			return wrong4
		}
		sum.Add(sum, n.Lsh(n, uint(24-8*i)))
	}
	if told(last).BitLen() > 8*(4-len(ahead)) {
		return wrong4
	}
	return right4(uint32(sum.Add(sum, told(last)).Uint64()))
}

// words6 is IPv6 by the library, which reads these texts as the chapter does, but knows zones too.
func words6(s string) ([8]uint16, api.Errno) {
	a, err := netip.ParseAddr(s)
	if err != nil || !a.Is6() || strings.Contains(s, "%") {
		return nothing, api.ErrURL
	}
	b := a.As16()
	p := [8]uint16{}
	for i := range p {
		p[i] = uint16(b[2*i])<<8 | uint16(b[2*i+1])
	}
	return p, api.OK
}

// written6 is how an address is written, by the chapter's words: of all ways to leave a row out, the one that leaves out most, and the first.
func written6(p [8]uint16) string {
	hex := func(pieces []uint16) string {
		texts := []string{}
		for _, n := range pieces {
			texts = append(texts, fmt.Sprintf("%x", n))
		}
		return strings.Join(texts, ":")
	}
	for size := 8; size >= 2; size-- {
		for from := 0; from+size <= 8; from++ {
			if strings.Trim(hex(p[from:from+size]), ":0") == "" {
				return "[" + hex(p[:from]) + "::" + hex(p[from+size:]) + "]"
			}
		}
	}
	return "[" + hex(p[:]) + "]"
}

// unescaped is percent.Decode by the chapter's words.
func unescaped(s string) string {
	return escapeForm.ReplaceAllStringFunc(s, func(e string) string {
		var c byte
		fmt.Sscanf(e[1:], "%x", &c)
		return string([]byte{c})
	})
}

// wordsParse is Parse as the chapter's words tell it.
func wordsParse(s string) (string, api.Errno) {
	if strings.HasPrefix(s, "[") {
		if !strings.HasSuffix(s, "]") {
			return "", api.ErrURL
		}
		p, e := words6(s[1 : len(s)-1])
		if e != api.OK {
			return "", e
		}
		return written6(p), api.OK
	}
	lower := []byte(unescaped(s))
	for i, c := range lower {
		if c >= 'A' && c <= 'Z' {
			lower[i] = c + 'a' - 'A'
		}
	}
	name := string(lower)
	a := words4(name)
	switch {
	case name == "" || barredForm.MatchString(name) || a == wrong4:
		return "", api.ErrURL
	case a.is:
		return fmt.Sprintf("%d.%d.%d.%d", a.n>>24, a.n>>16&255, a.n>>8&255, a.n&255), api.OK
	}
	return name, api.OK
}

// eachJoin hands all texts of at most size of these pieces to do, joined with sep.
func eachJoin(pieces []string, sep string, size int, do func(s string)) {
	var more func(joined []string)
	more = func(joined []string) {
		do(strings.Join(joined, sep))
		if len(joined) == size {
			return
		}
		for _, p := range pieces {
			more(append(joined[:len(joined):len(joined)], p))
		}
	}
	more(nil)
}

// letters are the bytes of a text, each as a text of its own.
func letters(s string) []string { return strings.Split(s, "") }

// G1.

func TestIPv4Known(t *testing.T) {
	for s, want := range map[string]uint32{
		"0x7f.1":            0x7f000001,
		"127.0.0.1":         0x7f000001,
		"1.2.3.4":           0x01020304,
		"255.255.255.255":   0xffffffff,
		"0.0.0.0":           0,
		"192.168.0.1":       0xc0a80001,
		"1.2.3":             0x01020003,
		"1.2":               0x01000002,
		"1":                 1,
		"0300.0250.0.01":    0xc0a80001,
		"0xC0.0XA8.0x0.0X1": 0xc0a80001,
		"0xdeadBEEF":        0xdeadbeef,
		"010.10.0x10.010":   0x080a1008,
		"017700000001":      0x7f000001,
		"2130706433":        0x7f000001,
	} {
		check4(t, s, right4(want))
	}
}

// TestIPv4EmptyParts: an empty part at the end does not count, once, if there are others.
func TestIPv4EmptyParts(t *testing.T) {
	for s, want := range map[string]answer4{
		"":             none4,
		".":            none4,
		"..":           none4,
		"...":          none4,
		"1.":           right4(1),
		"1..":          none4,
		"1...":         none4,
		"1.2.3.4.":     right4(0x01020304),
		"1.2.3.4..":    none4,
		"0x.":          right4(0),
		"09.":          wrong4,
		"a.":           none4,
		"a.1.":         wrong4,
		".1":           wrong4,
		".1.":          wrong4,
		"..1":          wrong4,
		"1..2":         wrong4,
		"1..2.":        wrong4,
		"1.2.3.4.5.":   wrong4,
		"1.2.3..":      none4,
		".1.2.3":       wrong4,
		"1.2.3.4.5.a.": none4,
	} {
		check4(t, s, want)
	}
}

func TestIPv4Bases(t *testing.T) {
	for s, want := range map[string]answer4{
		"0":                   right4(0),
		"00":                  right4(0),
		"0000000000000":       right4(0),
		"0x":                  right4(0),
		"0X":                  right4(0),
		"0x0":                 right4(0),
		"0x00000000000000ff":  right4(255),
		"0000000000000000017": right4(15),
		"10":                  right4(10),
		"010":                 right4(8),
		"0010":                right4(8),
		"0x10":                right4(16),
		"0X10":                right4(16),
		"07":                  right4(7),
		"0xaBcDeF":            right4(0xabcdef),
		"0XABCDEF":            right4(0xabcdef),
		"0x.0X.0x.0X":         right4(0),
		"1.0x":                right4(0x01000000),
		"0x.1":                right4(1),
		"00.00":               right4(0),
		"08":                  wrong4,
		"09":                  wrong4,
		"018":                 wrong4,
		"0079":                wrong4,
		"1.08":                wrong4,
		"08.1":                wrong4,
		"0x8.09":              wrong4,
		"0xg":                 none4,
		"0x1g":                none4,
		"x":                   none4,
		"x1":                  none4,
		"00x1":                none4,
		"1x1":                 none4,
		"0x0x1":               none4,
		"0b1":                 none4,
		"0o7":                 none4,
		"07a":                 none4,
		"a":                   none4,
		"f":                   none4,
		"1a":                  none4,
		"1 ":                  none4,
		" 1":                  none4,
		"+1":                  none4,
		"-1":                  none4,
		"1_0":                 none4,
		"0x_1":                none4,
		"0x+1":                none4,
		"0x-1":                none4,
		"0x ":                 none4,
		"1e1":                 none4,
		"1\x00":               none4,
		"\u0661":              none4,
		"\uff11":              none4,
		"%31":                 none4,
		"0\u0445":             none4,
	} {
		check4(t, s, want)
	}
}

// TestIPv4EachByte: each byte as a part, behind a digit, behind a nought, and behind 0x.
func TestIPv4EachByte(t *testing.T) {
	for c := range 256 {
		for _, ahead := range []string{"", "1", "0", "00", "0x", "0X", "0xa", "1.", "1.0", "1.0x"} {
			for _, behind := range []string{"", "1", "."} {
				s := ahead + string([]byte{byte(c)}) + behind
				check4(t, s, words4(s))
			}
		}
	}
}

// TestIPv4Counts: one part to many.
func TestIPv4Counts(t *testing.T) {
	for s, want := range map[string]answer4{
		"1":           right4(1),
		"1.1":         right4(0x01000001),
		"1.1.1":       right4(0x01010001),
		"1.1.1.1":     right4(0x01010101),
		"1.1.1.1.1":   wrong4,
		"0.0.0.0.0":   wrong4,
		"0.0.0.0.0x":  wrong4,
		"1.1.1.1.1.1": wrong4,
		"1.1.1.1.a":   none4,
		"a.b.c.d.1":   wrong4,
	} {
		check4(t, s, want)
	}
	check4(t, strings.Repeat("0.", 100000)+"0", wrong4)
	check4(t, strings.Repeat("0.", 100000)+"a", none4)
	check4(t, strings.Repeat(".", 100000)+"1", wrong4)
}

// TestIPv4Ahead: the parts ahead at 255 and just above, wherever they stand.
func TestIPv4Ahead(t *testing.T) {
	for count := 2; count <= 4; count++ {
		for place := range count - 1 {
			for n, texts := range map[int][]string{255: {"255", "0xff", "0377", "0x0FF", "00377"}, 256: {"256", "0x100", "0400"}, 1 << 32: {"4294967296"}, 511: {"511"}} {
				for _, text := range texts {
					parts := letters(strings.Repeat("0", count))
					parts[place] = text
					want := wrong4
					if n == 255 {
						want = right4(0xff << (24 - 8*place))
					}
					check4(t, strings.Join(parts, "."), want)
				}
			}
		}
	}
	for _, s := range []string{"a.1", "1.a.1", "0x1g.1", "1.2.09.4", "-1.1", " 1.1", "1 .1", "example.1", "1.0xg.1", "é.1", "[.1", "%31.1"} {
		check4(t, s, wrong4)
	}
}

// TestIPv4Last: the last part at and just above what fits in the bytes that are left.
func TestIPv4Last(t *testing.T) {
	for ahead := range 4 {
		most := uint64(1)<<(8*(4-ahead)) - 1
		for _, form := range []string{"%d", "0x%x", "0X%X", "0%o", "0x000%x", "000%o"} {
			front := strings.Repeat("1.", ahead)
			high := uint32(uint64(0x01010101) >> (8 * (4 - ahead)) << (8 * (4 - ahead)))
			check4(t, front+fmt.Sprintf(form, most), right4(high|uint32(most)))
			check4(t, front+fmt.Sprintf(form, most-1), right4(high|uint32(most-1)))
			check4(t, front+fmt.Sprintf(form, most+1), wrong4)
			check4(t, front+fmt.Sprintf(form, 2*most+1), wrong4)
			check4(t, front+fmt.Sprintf(form, most+1)+".", wrong4)
		}
	}
}

// TestIPv4Great: numbers around and far above 64 bits do not come round to small ones.
func TestIPv4Great(t *testing.T) {
	for _, bits := range []uint{32, 33, 36, 40, 63, 64, 65, 68, 96, 128, 1000} {
		for more := int64(-1); more <= 1; more++ {
			n := new(big.Int).Lsh(big.NewInt(1), bits)
			n.Add(n, big.NewInt(more))
			for _, s := range []string{n.String(), "0x" + n.Text(16), "0" + n.Text(8)} {
				for _, form := range []string{"%s", "1.%s", "1.2.3.%s", "%s.1", "%s.0.0.0", "1.2.%s.4"} {
					s := fmt.Sprintf(form, s)
					check4(t, s, words4(s))
					if bits > 32 && ask4(s) != wrong4 {
						t.Errorf("IPv4(%q) is an address", s)
					}
				}
			}
		}
	}
	for _, s := range []string{"9", "0xf", "07", "1", "0x8"} {
		check4(t, s+strings.Repeat("0", 100000), wrong4)
	}
	check4(t, strings.Repeat("0", 100000)+"1", right4(1))
	check4(t, "0x"+strings.Repeat("0", 100000)+"1", right4(1))
	check4(t, strings.Repeat("9", 100000)+"a", none4)
}

func TestIPv4NoNumber(t *testing.T) {
	for _, s := range []string{"a.b", "example.com", "1.2.3.a", "1.2.3.4a", "1.2.3.4.5.a", "09.a", "256.256.b", "a.0xg", "[::1]", "::1", "1.2.3.4/", "1,2"} {
		check4(t, s, none4)
	}
	for _, s := range []string{"a.1", "a.09", "a.0x1", "a.0x", "a.0", "é.1", "a.b.c.d.e.1"} {
		check4(t, s, wrong4)
	}
}

// TestIPv4ShortTexts: all texts of few bytes, and all of few parts.
func TestIPv4ShortTexts(t *testing.T) {
	do := func(s string) {
		if got, want := ask4(s), words4(s); got != want {
			t.Fatalf("IPv4(%q): %v, want %v", s, got, want)
		}
	}
	eachJoin(letters("0189xXfg."), "", 6, do)
	eachJoin([]string{"", "0", "255", "256", "0x", "0377", "09", "a", "65536", "4294967295"}, ".", 5, do)
}

// G2.

func check6(t *testing.T, s string, want [8]uint16) {
	t.Helper()
	if got, e := IPv6(s); got != want || e != api.OK {
		t.Errorf("IPv6(%q): %x %v, want %x", s, got, e, want)
	}
}

func refuse6(t *testing.T, s string) {
	t.Helper()
	if got, e := IPv6(s); got != nothing || e != api.ErrURL {
		t.Errorf("IPv6(%q): %x %v", s, got, e)
	}
}

func TestIPv6Known(t *testing.T) {
	for s, want := range map[string][8]uint16{
		"1:2:3:4:5:6:7:8":     {1, 2, 3, 4, 5, 6, 7, 8},
		"0:0:0:0:0:0:0:0":     {},
		"0:0::1":              {7: 1},
		"::":                  {},
		"::1":                 {7: 1},
		"1::":                 {1},
		"1::8":                {1, 7: 8},
		"1:2::7:8":            {1, 2, 6: 7, 7: 8},
		"::2:3:4:5:6:7:8":     {0, 2, 3, 4, 5, 6, 7, 8},
		"1::3:4:5:6:7:8":      {1, 0, 3, 4, 5, 6, 7, 8},
		"1:2:3::5:6:7:8":      {1, 2, 3, 0, 5, 6, 7, 8},
		"1:2:3:4:5:6::8":      {1, 2, 3, 4, 5, 6, 0, 8},
		"1:2:3:4:5:6:7::":     {1, 2, 3, 4, 5, 6, 7, 0},
		"::0":                 {},
		"0::":                 {},
		"0::0":                {},
		"fe80::1:a:Ff":        {0xfe80, 5: 1, 6: 10, 7: 255},
		"ABCD:abcd:aBcD::EF0": {0xabcd, 0xabcd, 0xabcd, 7: 0xef0},
		"0001:002:03::FFFF":   {1, 2, 3, 7: 0xffff},
		"0000::0000":          {},
		"ffff:ffff:ffff:ffff:ffff:ffff:ffff:ffff": {0xffff, 0xffff, 0xffff, 0xffff, 0xffff, 0xffff, 0xffff, 0xffff},
	} {
		check6(t, s, want)
	}
}

// TestIPv6EachGap: :: at each place, for each number of pieces.
func TestIPv6EachGap(t *testing.T) {
	for front := range 10 {
		for back := range 10 {
			s := strings.Join(letters("123456789"[:front]), ":") + "::" + strings.Join(letters("fedcba987"[:back]), ":")
			if front+back > 7 {
				refuse6(t, s)
				continue
			}
			want := nothing
			for i := range front {
				want[i] = uint16(i + 1)
			}
			for i := range back {
				want[8-back+i] = uint16(15 - i)
			}
			check6(t, s, want)
		}
	}
}

func TestIPv6WrongGaps(t *testing.T) {
	for _, s := range []string{
		"", ":", ":::", "::::", ":::::", "1:::2", ":::1", "1:::", "1::::2", "::1::", "1::2::3", "::2::", "::1:2::", "1::2::",
		":1::", ":1::2", "::1:", "1::2:", "1:", ":1", ":1:", "1:2", "1:2:3:4:5:6:7:", ":1:2:3:4:5:6:7", ":1:2:3:4:5:6:7:8", "1:2:3:4:5:6:7:8:",
		":2:3:4:5:6:7:8", "::1:2:3:4:5:6:7:8", "1:2:3:4:5:6:7:8::", "1:2:3:4::5:6:7:8", "1:2:3:4:5:6:7::8",
	} {
		refuse6(t, s)
	}
}

// TestIPv6Counts: any other number of pieces than eight is none's.
func TestIPv6Counts(t *testing.T) {
	for count := range 20 {
		s := strings.Join(letters(strings.Repeat("1", count)), ":")
		if count == 8 {
			check6(t, s, [8]uint16{1, 1, 1, 1, 1, 1, 1, 1})
		} else {
			refuse6(t, s)
		}
	}
	refuse6(t, strings.Repeat("1:", 100000)+"1")
	refuse6(t, strings.Repeat("1:", 100000)+":1")
	refuse6(t, "::1"+strings.Repeat(":1", 100000))
	refuse6(t, strings.Repeat(":", 100000))
}

// TestIPv6Pieces: one piece, wherever it stands.
func TestIPv6Pieces(t *testing.T) {
	sound := map[string]uint16{"0": 0, "00": 0, "0000": 0, "f": 15, "F": 15, "0f": 15, "00f": 15, "000f": 15, "10": 16, "ffff": 0xffff, "FFFF": 0xffff, "aBcD": 0xabcd, "9A": 0x9a, "fff": 0xfff}
	wrong := []string{"00000", "12345", "0ffff", "fffff", "10000", "g", "G", "1g", "g1", "1-", "-1", "+1", " 1", "1 ", "0x1", "1_1", "1x", "x", "1.", ".", ".1", "1.2", "é", "\x00", "%31", "1%", "[1", "1]", "\uff11", "@", "`", "/", "\xff", "123456789012345678901"}
	for place := range 8 {
		parts := letters("00000000")
		for text, n := range sound {
			parts[place] = text
			want := nothing
			want[place] = n
			check6(t, strings.Join(parts, ":"), want)
		}
		for _, text := range wrong {
			parts[place] = text
			refuse6(t, strings.Join(parts, ":"))
		}
	}
	for _, text := range wrong {
		refuse6(t, text+"::")
		refuse6(t, "::"+text)
		refuse6(t, "1::"+text+":1")
	}
}

// TestIPv6EachByte: each byte as a piece, and behind a digit.
func TestIPv6EachByte(t *testing.T) {
	for c := range 256 {
		if c == ':' {
			continue
		}
		s := string([]byte{byte(c)})
		is := strings.Contains("0123456789abcdefABCDEF", s)
		for _, text := range []string{"1:1:1:1:1:1:1:" + s, s + "::", "::" + s, "::1" + s, "::1" + s + ":1"} {
			if _, e := IPv6(text); (e == api.OK) != is {
				t.Errorf("IPv6(%q): %v", text, e)
			}
		}
	}
}

func TestIPv6FourNumbers(t *testing.T) {
	for s, want := range map[string][8]uint16{
		"1:2:3:4:5:6:1.2.3.4":         {1, 2, 3, 4, 5, 6, 0x102, 0x304},
		"::1.2.3.4":                   {6: 0x102, 7: 0x304},
		"::ffff:1.2.3.4":              {5: 0xffff, 6: 0x102, 7: 0x304},
		"1::1.2.3.4":                  {1, 6: 0x102, 7: 0x304},
		"1::5:1.2.3.4":                {1, 5: 5, 6: 0x102, 7: 0x304},
		"1:2:3:4:5::1.2.3.4":          {1, 2, 3, 4, 5, 0, 0x102, 0x304},
		"::2:3:4:5:6:1.2.3.4":         {0, 2, 3, 4, 5, 6, 0x102, 0x304},
		"::0.0.0.0":                   {},
		"::255.255.255.255":           {6: 0xffff, 7: 0xffff},
		"::10.20.30.100":              {6: 0x0a14, 7: 0x1e64},
		"::0.10.0.200":                {6: 0x000a, 7: 0x00c8},
		"a:b:c:d:e:f:192.168.254.199": {10, 11, 12, 13, 14, 15, 0xc0a8, 0xfec7},
	} {
		check6(t, s, want)
	}
	for place := range 4 {
		for text, ok := range map[string]bool{"0": true, "9": true, "10": true, "99": true, "100": true, "255": true, "256": false, "260": false, "300": false, "999": false, "1000": false, "00": false, "01": false, "010": false, "0255": false, "000": false, "": false, "a": false, "1a": false, "0x1": false, "0x": false, " 1": false, "+1": false, "-1": false, "1 ": false, "4294967296": false, "18446744073709551617": false, "é": false} {
			parts := letters("1234")
			parts[place] = text
			s := "::" + strings.Join(parts, ".")
			if _, e := IPv6(s); (e == api.OK) != ok {
				t.Errorf("IPv6(%q): %v", s, e)
			}
		}
	}
}

// TestIPv6FourNumbersWrong: too few, too many, and where they may not stand.
func TestIPv6FourNumbersWrong(t *testing.T) {
	for _, s := range []string{
		"::1.", "::1.2", "::1.2.3", "::1.2.3.", "::.1.2.3", "::1..2.3", "::1.2.3.4.", "::.1.2.3.4", "::1.2.3.4.5", "::.", "::...", "::....",
		"1.2.3.4", "1.2.3.4::", "1.2.3.4::1", "::1.2.3.4:1", "::1.2.3.4:", "::1.2.3.4::", "::1.2.3.4:5.6.7.8", "1::1.2.3.4:1", "1.2.3.4:1:2:3:4:5:6", "1:2:3:1.2.3.4:4:5:6",
		"1:2:3:4:5:6:7:1.2.3.4", "1:2:3:4:5:1.2.3.4", "1:2:3:4:5:6::1.2.3.4", "::1:2:3:4:5:6:1.2.3.4", "1:2:3:4:5:6:7:8:1.2.3.4", ":1.2.3.4", "1:2:3:4:5:6:1.2.3.4:", "1:2:3:4:5:6:1.2.3.4::",
		"1.2.3.4::5.6.7.8", "::1.2.3.4%1", "::1.2.3.a", "::f.2.3.4", "1:2:3:4:5:6:1.2.3",
	} {
		refuse6(t, s)
	}
}

// TestIPv6ShortTexts: all texts of few bytes, and all of few pieces.
func TestIPv6ShortTexts(t *testing.T) {
	do := func(s string) {
		got, e := IPv6(s)
		if want, wantE := words6(s); got != want || e != wantE {
			t.Fatalf("IPv6(%q): %x %v, want %x %v", s, got, e, want, wantE)
		}
	}
	eachJoin(letters(":01Ag."), "", 7, do)
	eachJoin([]string{"", "1", "1.2.3.4"}, ":", 10, do)
	eachJoin([]string{"", ":", "0", "abcd", "12345", "g", "0.0.0.0"}, ":", 5, do)
	eachJoin(letters("0125."), "", 7, func(s string) { do("::" + s) })
}

// G3: Parse.

func checkParse(t *testing.T, s, want string) {
	t.Helper()
	if got, e := Parse(s); got != want || e != api.OK {
		t.Errorf("Parse(%q): %q %v, want %q", s, got, e, want)
	}
}

func refuse(t *testing.T, s string) {
	t.Helper()
	if got, e := Parse(s); got != "" || e != api.ErrURL {
		t.Errorf("Parse(%q): %q %v", s, got, e)
	}
}

func TestParseExamples(t *testing.T) {
	checkParse(t, "0x7f.1", "127.0.0.1")
	checkParse(t, "[0:0::1]", "[::1]")
}

func TestParseNames(t *testing.T) {
	for s, want := range map[string]string{
		"example.com":                     "example.com",
		"EXAMPLE.Com.":                    "example.com.",
		"a":                               "a",
		"AZaz09z":                         "azaz09z",
		"ABCDEFGHIJKLMNOPQRSTUVWXYZ":      "abcdefghijklmnopqrstuvwxyz",
		"a_b*c":                           "a_b*c",
		"!\"$&'()*+,-.;=_`{}~":            "!\"$&'()*+,-.;=_`{}~",
		"%41%2eb":                         "a.b",
		"%5a%5A":                          "zz",
		"%65xample.co%6D":                 "example.com",
		".":                               ".",
		"..":                              "..",
		"1..":                             "1..",
		".a":                              ".a",
		"a.1.b":                           "a.1.b",
		"1a":                              "1a",
		"0xg":                             "0xg",
		"1.2.3.4.a":                       "1.2.3.4.a",
		"256.a":                           "256.a",
		"09.x":                            "09.x",
		"xn--mgba":                        "xn--mgba",
		strings.Repeat("Ab", 50000) + ".": strings.Repeat("ab", 50000) + ".",
	} {
		checkParse(t, s, want)
	}
}

// TestParseEachByte: each byte, as it is and with a percent sign, alone and between others.
func TestParseEachByte(t *testing.T) {
	for c := range 256 {
		bare := string([]byte{byte(c)})
		may := c >= 0x21 && c <= 0x7e && !strings.Contains("#%/:<>?@[\\]^|", bare)
		for _, form := range []string{"%s", "a%s", "%sa", "a%sa", "a.%sb"} {
			for _, text := range []string{bare, fmt.Sprintf("%%%02x", c), fmt.Sprintf("%%%02X", c)} {
				s := fmt.Sprintf(form, text)
				switch {
				case !may:
					refuse(t, s)
				case c >= '0' && c <= '9' && form == "%s":
					checkParse(t, s, "0.0.0."+bare)
				default:
					checkParse(t, s, strings.ToLower(fmt.Sprintf(form, bare)))
				}
			}
		}
	}
}

func TestParseNothing(t *testing.T) {
	for _, s := range []string{
		"", "%", "%%", "a%", "a%2", "a%zz", "%25", "%2541", "a%20", "a b", "%00", "%7f", "%80", "é", "%C3%A9", "\xff", "\u212a", "a\u212a", "%e2%84%aa", "\u0130",
		"a:1", "a/b", "a@b", "a\\b", "a^", "a|", "a<", "a>", "a?", "a#", "a]", "]", "a[", "a[::1]", " [::1]", "%5B::1%5D", "%5b::1]", "%5B1%5D", "::1", "\x7f", "\x20", "a\n", "\t",
	} {
		refuse(t, s)
	}
}

func TestParseAddresses4(t *testing.T) {
	for s, want := range map[string]string{
		"1.2.3.4":             "1.2.3.4",
		"127.1":               "127.0.0.1",
		"0x7f.0.1":            "127.0.0.1",
		"0X7F.0.0x1":          "127.0.0.1",
		"0XfF":                "0.0.0.255",
		"017700000001":        "127.0.0.1",
		"2130706433":          "127.0.0.1",
		"127.0.0.1.":          "127.0.0.1",
		"0":                   "0.0.0.0",
		"0x":                  "0.0.0.0",
		"0X":                  "0.0.0.0",
		"4294967295":          "255.255.255.255",
		"255.255.255.255":     "255.255.255.255",
		"1.65536":             "1.1.0.0",
		"1.2.3":               "1.2.0.3",
		"10.200.30.249":       "10.200.30.249",
		"%31":                 "0.0.0.1",
		"%31%2e2%2E%33.4":     "1.2.3.4",
		"%30x7F.1":            "127.0.0.1",
		"0%587f.1":            "127.0.0.1",
		"1.2.3.4%2e":          "1.2.3.4",
		"000000000000000001.": "0.0.0.1",
	} {
		checkParse(t, s, want)
	}
	for _, s := range []string{
		"1.2.3.256", "256.1.1.1", "1.2.3.4.5", "4294967296", "1.16777216", "1.2.65536", "09", "a.09", "a.1", "a.0x1", "A.0X", "1..2", ".1", "0x1g.1", "a.%31", "%61.1", "%30%39",
		"99999999999999999999999", "18446744073709551617", "a.b.c.d.e.0", "1.2.3.4.5.", "example.1.",
	} {
		refuse(t, s)
	}
}

// TestParseEachByteOfAddress: each byte of an address is at its place.
func TestParseEachByteOfAddress(t *testing.T) {
	for place := range 4 {
		for c := range 256 {
			parts := letters("1234")
			parts[place] = fmt.Sprint(c)
			s := strings.Join(parts, ".")
			checkParse(t, s, s)
			n, _, _ := IPv4(s)
			checkParse(t, fmt.Sprint(n), s)
		}
	}
}

func TestParseBrackets(t *testing.T) {
	for s, want := range map[string]string{
		"[::]":                    "[::]",
		"[::1]":                   "[::1]",
		"[1::]":                   "[1::]",
		"[1:2:3:4:5:6:7:8]":       "[1:2:3:4:5:6:7:8]",
		"[0:0:0:0:0:0:0:0]":       "[::]",
		"[0:0:1:0:0:0:1:0]":       "[0:0:1::1:0]",
		"[0:0:0:1:0:0:1:0]":       "[::1:0:0:1:0]",
		"[0:0:1:1:0:0:1:1]":       "[::1:1:0:0:1:1]",
		"[1:0:0:1:1:0:0:1]":       "[1::1:1:0:0:1]",
		"[1:1:0:0:1:1:0:0]":       "[1:1::1:1:0:0]",
		"[0:0:1:1:1:0:0:0]":       "[0:0:1:1:1::]",
		"[0:1:0:1:0:1:0:1]":       "[0:1:0:1:0:1:0:1]",
		"[1:0:1:1:1:1:1:1]":       "[1:0:1:1:1:1:1:1]",
		"[0:1:1:1:1:1:1:1]":       "[0:1:1:1:1:1:1:1]",
		"[::2:3:4:5:6:7:8]":       "[0:2:3:4:5:6:7:8]",
		"[1:2:3::5:6:7:8]":        "[1:2:3:0:5:6:7:8]",
		"[1:2:3:4:5:6:7::]":       "[1:2:3:4:5:6:7:0]",
		"[1:2:3:4:5:6:0:0]":       "[1:2:3:4:5:6::]",
		"[0:0:3:4:5:6:7:8]":       "[::3:4:5:6:7:8]",
		"[1::4:0:0:0:8]":          "[1:0:0:4::8]",
		"[::ffff:1.2.3.4]":        "[::ffff:102:304]",
		"[1:2:3:4:5:6:1.2.3.4]":   "[1:2:3:4:5:6:102:304]",
		"[1:2:3:4:5:6:0.0.0.0]":   "[1:2:3:4:5:6::]",
		"[1:2:3:4:5:6:0.0.0.1]":   "[1:2:3:4:5:6:0:1]",
		"[ABCD:0EF::]":            "[abcd:ef::]",
		"[0010:0a00:F:00::0100]":  "[10:a00:f::100]",
		"[FFFF::ffff]":            "[ffff::ffff]",
		"[2001:DB8:0:0:0:0:2:01]": "[2001:db8::2:1]",
	} {
		checkParse(t, s, want)
	}
	for _, s := range []string{
		"[", "[]", "[[", "[]]", "[[]]", "[::1", "[::", "[::1]a", "[::1] ", "[::1].", "[::1]]", "[[::1]", "[[::1]]", "[::1]:80", "[::1][", "[::1]%5D", "[::1%5D", "[::1]%", "[a]", "[1.2.3.4]", "[1]",
		"[:]", "[:::]", "[1:2:3:4:5:6:7]", "[1:2:3:4:5:6:7:8:9]", "[1::2::3]", "[1:2:3:4:5:6:7:8::]", "[12345::]", "[g::]", "[::1.2.3]", "[::01.2.3.4]", "[::1.2.3.256]", "[1.2.3.4::]", "[1:2:3:4:5:6:7:1.2.3.4]", "[1:]",
		"[::%31]", "[%3A%3A]", "[::1%25]", "[::1%eth0]", "[ ::1]", "[::1 ]", "[é]",
	} {
		refuse(t, s)
	}
}

// TestParseEachRow: pieces that are 0, or not, in every way.
func TestParseEachRow(t *testing.T) {
	for mask := range 256 {
		p := [8]uint16{}
		texts := []string{}
		for i := range p {
			p[i] = uint16((mask >> i & 1) * (0xa0 + i))
			texts = append(texts, fmt.Sprintf("%04X", p[i]))
		}
		want := written6(p)
		checkParse(t, "["+strings.Join(texts, ":")+"]", want)
		checkParse(t, want, want)
	}
}

// TestParseEachPiece: each number that a piece may be.
func TestParseEachPiece(t *testing.T) {
	for n := range 1 << 16 {
		s := fmt.Sprintf("[%x:1:1:1:1:1:1:%04X]", n, n)
		want := fmt.Sprintf("[%x:1:1:1:1:1:1:%x]", n, n)
		if got, e := Parse(s); got != want || e != api.OK {
			t.Fatalf("Parse(%q): %q %v, want %q", s, got, e, want)
		}
	}
}

// G3: Domain.

func TestDomain(t *testing.T) {
	for s, want := range map[string]bool{
		"a.example":   true,
		"A.EXAMPLE.":  true,
		"localhost":   true,
		"a.1.b":       true,
		"1a":          true,
		"0xg":         true,
		"..":          true,
		".":           true,
		"1..":         true,
		"1.2.3.4":     false,
		"127.0.0.1":   false,
		"1.2.3.4.":    false,
		"0":           false,
		"0x":          false,
		"0X7F":        false,
		"1":           false,
		"[::1]":       false,
		"[":           false,
		"[]":          false,
		"[a":          false,
		"[a.example]": false,
		"[::1]a":      false,
		// Those that Parse refuses, or would decode, are taken as they are.
		"":             true,
		"a b":          true,
		"é":            true,
		"%":            true,
		"%31":          true,
		"1.2.3.%34":    true,
		"%5B::1]":      true,
		"::1":          true,
		"]":            true,
		" [::1]":       true,
		"a[":           true,
		"a:1":          true,
		"\xff":         true,
		"09":           false,
		"a.09":         false,
		"a.1":          false,
		"a.0x":         false,
		"1.2.3.4.5":    false,
		"4294967296":   false,
		"256.1.1.1":    false,
		"1..2":         false,
		"a b.1":        false,
		"%.1":          false,
		"a/b.0x1f":     false,
		".99999999999": false,
		"é.1.":         false,
	} {
		if got := Domain(s); got != want {
			t.Errorf("Domain(%q): %t", s, got)
		}
	}
}

// TestDomainShortTexts: by the chapter's words, of any text.
func TestDomainShortTexts(t *testing.T) {
	eachJoin(letters("[0189xXfg. "), "", 5, func(s string) {
		if got, want := Domain(s), !strings.HasPrefix(s, "[") && !words4(s).is; got != want {
			t.Fatalf("Domain(%q): %t", s, got)
		}
	})
}

// What follows.

// follow: Parse is as the chapter's words tell it; what it answers is parsed as it is, and is a domain just if it is no address.
func follow(t *testing.T, s string) {
	got, e := Parse(s)
	if want, wantE := wordsParse(s); got != want || e != wantE {
		t.Fatalf("Parse(%q): %q %v, want %q %v", s, got, e, want, wantE)
	}
	if e != api.OK {
		return
	}
	if again, e := Parse(got); again != got || e != api.OK {
		t.Fatalf("Parse(%q), that of %q, is %q %v", got, s, again, e)
	}
	if _, err := netip.ParseAddr(strings.Trim(got, "[]")); Domain(got) != (err != nil) {
		t.Fatalf("Domain(%q), Parse's of %q: %t", got, s, err == nil)
	}
}

func TestFollowsShortTexts(t *testing.T) {
	eachJoin(letters("0x9G.%2e["), "", 5, func(s string) { follow(t, s) })
	eachJoin([]string{"%", "%2", "e", "5B", "3", "1", ".", "A", "[", "]", ":"}, "", 5, func(s string) { follow(t, s) })
	eachJoin(letters("0:1F."), "", 7, func(s string) { follow(t, "["+s+"]") })
	eachJoin([]string{"", "0", "10", "0.0.0.0"}, ":", 9, func(s string) { follow(t, "["+s+"]") })
}

func TestFollowsMixedTexts(t *testing.T) {
	x := uint32(1)
	next := func(below int) int {
		x = x*1664525 + 1013904223
		return int(x>>16) % below
	}
	pieces := []string{"a", "Z", ".", ".", "1", "0", "0x", "f", "%2e", "%30", "%41", "-", "255", "256", "65536", "%", "é", "@", "09"}
	for range 200000 {
		s := ""
		for range next(8) {
			s += pieces[next(len(pieces))]
		}
		follow(t, s)
	}
	for range 100000 {
		texts := []string{}
		for range 8 {
			texts = append(texts, []string{"0", "0", "00", "1", "Ab", fmt.Sprintf("%x", next(1<<16))}[next(6)])
		}
		follow(t, "["+strings.Join(texts, ":")+"]")
	}
}

// TestSameAnswers: a call has the same answer whatever was called ahead of it.
func TestSameAnswers(t *testing.T) {
	for range 3 {
		checkParse(t, "[1:0:0:4::]", "[1:0:0:4::]")
		refuse(t, "[1::2::3]")
		checkParse(t, "0x7f.1", "127.0.0.1")
		refuse(t, "1.2.3.4.5")
		checkParse(t, "A.b", "a.b")
		check4(t, "a.b", none4)
		check4(t, "1.2.3.4", right4(0x01020304))
		check6(t, "::1", [8]uint16{7: 1})
	}
}
