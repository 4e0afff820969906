package event

import (
	"encoding/binary"
	"math"
	"slices"
	"strings"
	"testing"

	"transept/api"
)

// layouts are what stands behind an event's Time, by its kind: z an ID 0, f that of a fetch, t a text,
// 3 and 4 a number below that, w one below 1000.
var layouts = [...]string{
	1: "zt", 2: "zt", 3: "ftttt433", 4: "ftt", 5: "f", 6: "ftt", 7: "fw",
	8: "f", 9: "ftt", 10: "fw", 11: "ft", 12: "ft", 13: "f", 14: "f4",
}

// nine begins numbers of ten bytes alone.
var nine = strings.Repeat("\xff", 9)

// examples are one event of each kind, beside its bytes.
func examples() []struct {
	e api.Event
	b string
} {
	return []struct {
		e api.Event
		b string
	}{
		{api.Event{Kind: 1, Time: 3, A: "https://a.example/"}, "\x01\x03\x00\x12https://a.example/"},
		{api.Event{Kind: 2, Time: 127, A: "img-src *"}, "\x02\x7f\x00\x09img-src *"},
		{api.Event{Kind: 3, Time: 128, ID: 1, A: "GET", B: "/u", C: "img", D: "n0", X: 3, Y: 2, Z: 1}, "\x03\x80\x01\x01\x03GET\x02/u\x03img\x02n0\x03\x02\x01"},
		{api.Event{Kind: 4, Time: 300, ID: 300, A: "a", B: "bc"}, "\x04\xac\x02\xac\x02\x01a\x02bc"},
		{api.Event{Kind: 5, Time: 5, ID: 127}, "\x05\x05\x7f"},
		{api.Event{Kind: 6, Time: 6, ID: 128, A: "", B: "\x00\xff"}, "\x06\x06\x80\x01\x00\x02\x00\xff"},
		{api.Event{Kind: 7, Time: 7, ID: 1, X: 204}, "\x07\x07\x01\x00\xcc"},
		{api.Event{Kind: 8, Time: 7, ID: 1}, "\x08\x07\x01"},
		{api.Event{Kind: 9, Time: 9, ID: 2, A: "é", B: ""}, "\x09\x09\x02\x02\xc3\xa9\x00"},
		{api.Event{Kind: 10, Time: 10, ID: 1, X: 404}, "\x0a\x0a\x01\x01\x94"},
		{api.Event{Kind: 11, Time: 11, ID: 1, A: "/v"}, "\x0b\x0b\x01\x02/v"},
		{api.Event{Kind: 12, Time: 12, ID: 1, A: "x-y"}, "\x0c\x0c\x01\x03x-y"},
		{api.Event{Kind: 13, Time: 1<<64 - 1, ID: 1<<64 - 1}, "\x0d" + nine + "\x01" + nine + "\x01"},
		{api.Event{Kind: 14, Time: 0, ID: 1, X: 2}, "\x0e\x00\x01\x02"},
	}
}

// lengths are the least and the greatest number of each length, one byte to ten; 0 is left out.
func lengths() []uint64 {
	l := []uint64{1, math.MaxUint64}
	for bits := 7; bits < 64; bits += 7 {
		l = append(l, 1<<bits-1, 1<<bits)
	}
	return l
}

// textOf and numberOf are the fields of e, by their order.
func textOf(e *api.Event, i int) *string { return []*string{&e.A, &e.B, &e.C, &e.D}[i] }
func numberOf(e *api.Event, i int) *int  { return []*int{&e.X, &e.Y, &e.Z}[i] }

// textsOf and limitsOf are how many texts a kind has, and what its numbers are below.
func textsOf(kind int) int { return strings.Count(layouts[kind], "t") }
func limitsOf(kind int) (l []int) {
	for _, c := range layouts[kind] {
		if limit := limitOf(c); limit > 0 {
			l = append(l, limit)
		}
	}
	return l
}

// limitOf is what a number of the layout is below; 0 of what is none.
func limitOf(c rune) int {
	switch c {
	case '3':
		return 3
	case '4':
		return 4
	case 'w':
		return 1000
	}
	return 0
}

// least is the event of this kind with nothing in it but what must be.
func least(kind int) api.Event {
	e := api.Event{Kind: kind}
	if layouts[kind][0] == 'f' {
		e.ID = 1
	}
	return e
}

// some are right events: all examples, and of each kind those at the edges of each field.
func some() (l []api.Event) {
	for _, x := range examples() {
		l = append(l, x.e)
	}
	for kind := 1; kind <= 14; kind++ {
		e := least(kind)
		l = append(l, e)
		for i := range textsOf(kind) {
			for _, size := range []int{1, 127, 128, 300} {
				f := e
				*textOf(&f, i) = strings.Repeat("\x80", size)
				l = append(l, f)
			}
		}
		for i, limit := range limitsOf(kind) {
			for _, n := range []int{1, limit / 2, limit - 1} {
				f := e
				*numberOf(&f, i) = n
				l = append(l, f)
			}
		}
	}
	return l
}

// written is Encode by the library's means, of an event that is right.
func written(e api.Event) string {
	b := binary.AppendUvarint([]byte{byte(e.Kind)}, e.Time)
	b = binary.AppendUvarint(b, e.ID)
	for i := range textsOf(e.Kind) {
		s := *textOf(&e, i)
		b = append(binary.AppendUvarint(b, uint64(len(s))), s...)
	}
	for i, limit := range limitsOf(e.Kind) {
		n := *numberOf(&e, i)
		if limit == 1000 {
			b = binary.BigEndian.AppendUint16(b, uint16(n))
		} else {
			b = append(b, byte(n))
		}
	}
	return string(b)
}

// slow is Decode as the chapter's words tell it, one thing behind the other.
func slow(b string) (api.Event, int, api.Errno) {
	var none api.Event
	if b == "" {
		return none, 0, api.ErrShort
	}
	if b[0] < 1 || b[0] > 14 {
		return none, 0, api.ErrForm
	}
	got := api.Event{Kind: int(b[0])}
	at, texts, smalls := 1, 0, 0
	for _, what := range "n" + layouts[b[0]] {
		if limit := limitOf(what); limit > 0 {
			n, size, e := slowSmall(b[at:], limit)
			at += size
			if e != api.OK {
				return none, at, e
			}
			*numberOf(&got, smalls) = n
			smalls++
			continue
		}
		n, size, e := slowNumber(b[at:], what)
		at += size
		if e != api.OK {
			return none, at, e
		}
		switch {
		case what == 'n':
			got.Time = n
		case what != 't':
			got.ID = n
		case n > 4096:
			return none, at - 1, api.ErrLimit
		case len(b)-at < int(n):
			return none, len(b), api.ErrShort
		default:
			*textOf(&got, texts) = b[at : at+int(n)]
			at += int(n)
			texts++
		}
	}
	if at < len(b) {
		return none, at, api.ErrEnd
	}
	return got, at, api.OK
}

// slowNumber is a number of the layout at the beginning of b, and its size; or the place of the fault.
func slowNumber(b string, what rune) (uint64, int, api.Errno) {
	for i := range len(b) {
		switch c := b[i]; {
		case i == 0 && what == 'z' && c != 0, i == 0 && what == 'f' && c == 0:
			return 0, i, api.ErrForm
		case i > 0 && c == 0, i == 9 && c > 1:
			return 0, i, api.ErrForm
		case c < 0x80:
			n, size := binary.Uvarint([]byte(b))
			return n, size, api.OK
		}
	}
	return 0, len(b), api.ErrShort
}

// slowSmall is a number below limit at the beginning of b, and its size; or the place of the fault.
func slowSmall(b string, limit int) (int, int, api.Errno) {
	if len(b) == 0 {
		return 0, 0, api.ErrShort
	}
	if limit < 256 {
		if int(b[0]) >= limit {
			return 0, 0, api.ErrForm
		}
		return int(b[0]), 1, api.OK
	}
	// The least number that begins with this byte is too great.
	if int(b[0])*256 >= limit {
		return 0, 0, api.ErrForm
	}
	if len(b) == 1 {
		return 0, 1, api.ErrShort
	}
	n := int(b[0])*256 + int(b[1])
	if n >= limit {
		return 0, 1, api.ErrForm
	}
	return n, 2, api.OK
}

func wantDecode(t *testing.T, b string, x api.Event, at int, e api.Errno) {
	t.Helper()
	if y, k, f := Decode([]byte(b)); y != x || k != at || f != e {
		t.Errorf("Decode(%.60x, %d bytes): %.60v, %d, %v; want %.60v, %d, %v", b, len(b), y, k, f, x, at, e)
	}
}

func wantFault(t *testing.T, b string, at int, e api.Errno) {
	t.Helper()
	wantDecode(t, b, api.Event{}, at, e)
}

// wantSlow: Decode is what the slow one tells.
func wantSlow(t *testing.T, b string) {
	t.Helper()
	x, at, e := slow(b)
	wantDecode(t, b, x, at, e)
}

// wantRight: e is right, its bytes are what they should be, and it is read back out of them.
func wantRight(t *testing.T, e api.Event) {
	t.Helper()
	if !Right(e) {
		t.Errorf("not right: %.60v", e)
		return
	}
	b, f := Encode(e)
	if want := written(e); string(b) != want || f != api.OK {
		t.Errorf("Encode(%.60v): %.60x, %d bytes, %v; want %.60x, %d bytes", e, b, len(b), f, want, len(want))
	}
	wantDecode(t, string(b), e, len(b), api.OK)
}

func wantWrong(t *testing.T, e api.Event) {
	t.Helper()
	if Right(e) {
		t.Errorf("right: %.60v", e)
	}
	if b, f := Encode(e); b != nil || f != api.ErrArg {
		t.Errorf("Encode(%.60v): %.60x, %v", e, b, f)
	}
}

// E1.

func TestExamples(t *testing.T) {
	for i, x := range examples() {
		if x.e.Kind != i+1 {
			t.Fatalf("example %d is of kind %d", i, x.e.Kind)
		}
		if b, e := Encode(x.e); string(b) != x.b || e != api.OK || !Right(x.e) {
			t.Errorf("%v: %x, %v; want %x", x.e, b, e, x.b)
		}
		wantDecode(t, x.b, x.e, len(x.b), api.OK)
	}
}

func TestSomeAreRight(t *testing.T) {
	for _, e := range some() {
		wantRight(t, e)
	}
}

func TestKinds(t *testing.T) {
	for kind := 1; kind <= 14; kind++ {
		wantRight(t, least(kind))
	}
	wantWrong(t, api.Event{})
	for _, kind := range []int{0, 15, 16, -1, -14, 256, 256 + 1, 256 + 8, 1<<32 + 8, math.MaxInt, math.MinInt} {
		wantWrong(t, api.Event{Kind: kind})
		wantWrong(t, api.Event{Kind: kind, ID: 1})
		wantWrong(t, api.Event{Kind: kind, Time: 1, A: "a"})
		wantWrong(t, api.Event{Kind: kind, ID: 1, X: 1})
	}
}

func TestIDs(t *testing.T) {
	for kind := 1; kind <= 14; kind++ {
		fetch := kind > 2
		for _, id := range append(lengths(), 0) {
			e := api.Event{Kind: kind, ID: id}
			if fetch == (id > 0) {
				wantRight(t, e)
			} else {
				wantWrong(t, e)
			}
		}
	}
}

func TestTimes(t *testing.T) {
	for kind := 1; kind <= 14; kind++ {
		for _, time := range append(lengths(), 0) {
			e := least(kind)
			e.Time = time
			wantRight(t, e)
		}
	}
}

// TestLengths: the bytes of a Send are its Kind's, and as many as its Time and its ID take.
func TestLengths(t *testing.T) {
	for bytes := 1; bytes <= 10; bytes++ {
		n := uint64(1) << (7 * (bytes - 1))
		if b, _ := Encode(api.Event{Kind: 8, Time: n, ID: 1}); len(b) != 2+bytes {
			t.Errorf("time %d: %x", n, b)
		}
		if b, _ := Encode(api.Event{Kind: 8, ID: n}); len(b) != 2+bytes {
			t.Errorf("ID %d: %x", n, b)
		}
	}
}

func TestTexts(t *testing.T) {
	for kind := 1; kind <= 14; kind++ {
		for i := range textsOf(kind) {
			for _, size := range []int{0, 1, 127, 128, 4095, 4096, 4097, 5000, 1 << 16} {
				e := least(kind)
				*textOf(&e, i) = strings.Repeat("\xff", size)
				if size <= 4096 {
					wantRight(t, e)
				} else {
					wantWrong(t, e)
				}
			}
		}
	}
	long := strings.Repeat("x", 4096)
	e := api.Event{Kind: 3, Time: math.MaxUint64, ID: math.MaxUint64, A: long, B: long, C: long, D: long, X: 3, Y: 2, Z: 2}
	wantRight(t, e)
	if b, _ := Encode(e); len(b) != 1+10+10+4*(2+4096)+3 || len(b) > api.MaxFrame {
		t.Errorf("the longest event has %d bytes", len(b))
	}
}

func TestNumbers(t *testing.T) {
	for kind := 1; kind <= 14; kind++ {
		for i, limit := range limitsOf(kind) {
			for _, n := range []int{0, 1, limit - 1} {
				e := least(kind)
				*numberOf(&e, i) = n
				wantRight(t, e)
			}
			for _, n := range []int{limit, limit + 1, 256 + limit - 1, 1 << 16, 1 << 32, -1, -limit, math.MaxInt, math.MinInt} {
				e := least(kind)
				if *numberOf(&e, i) = n; n >= 0 && n < limit {
					continue
				}
				wantWrong(t, e)
			}
		}
	}
}

func TestStatuses(t *testing.T) {
	for _, kind := range []int{api.PreDone, api.Response} {
		for n := range 1000 {
			wantRight(t, api.Event{Kind: kind, ID: 1, X: n})
		}
		for n, want := range map[int]string{0: "\x00\x00", 255: "\x00\xff", 256: "\x01\x00", 999: "\x03\xe7"} {
			if b, e := Encode(api.Event{Kind: kind, ID: 1, X: n}); string(b) != string([]byte{byte(kind)})+"\x00\x01"+want || e != api.OK {
				t.Errorf("%d: %x, %v", n, b, e)
			}
		}
		wantWrong(t, api.Event{Kind: kind, ID: 1, X: 1000})
	}
}

// TestNothingElse: a field that the kind does not have is zero, whatever it would be of other kinds.
func TestNothingElse(t *testing.T) {
	for kind := 1; kind <= 14; kind++ {
		for _, full := range []bool{false, true} {
			base := least(kind)
			if full {
				base = examples()[kind-1].e
			}
			for i := textsOf(kind); i < 4; i++ {
				for _, s := range []string{"x", "\x00", strings.Repeat("x", 4096), strings.Repeat("x", 4097)} {
					e := base
					*textOf(&e, i) = s
					wantWrong(t, e)
				}
			}
			for i := len(limitsOf(kind)); i < 3; i++ {
				for _, n := range []int{1, 2, -1, 255, 256, 1 << 32, math.MaxInt, math.MinInt} {
					e := base
					*numberOf(&e, i) = n
					wantWrong(t, e)
				}
			}
		}
	}
}

// TestOneRow: no two events have the same bytes.
func TestOneRow(t *testing.T) {
	seen := map[string]api.Event{}
	for _, e := range some() {
		b, _ := Encode(e)
		if f, ok := seen[string(b)]; ok && f != e {
			t.Errorf("%.60v and %.60v: %x", e, f, b)
		}
		seen[string(b)] = e
	}
}

// TestEncodeOwn: two answers have nothing to do with each other, nor has an answer spare room that shows.
func TestEncodeOwn(t *testing.T) {
	for _, x := range examples() {
		before := x.e
		one, _ := Encode(x.e)
		two, _ := Encode(x.e)
		for i := range one {
			one[i] = '#'
		}
		_ = append(one, "####"...)
		if string(two) != x.b || x.e != before {
			t.Errorf("%v: %x", x.e, two)
		}
		if three, _ := Encode(x.e); string(three) != x.b {
			t.Errorf("%v: %x, the third time", x.e, three)
		}
	}
}

// E2.

func TestNoBytes(t *testing.T) {
	wantFault(t, "", 0, api.ErrShort)
	if e, at, f := Decode(nil); e != (api.Event{}) || at != 0 || f != api.ErrShort {
		t.Errorf("Decode(nil): %v, %d, %v", e, at, f)
	}
}

func TestKindByte(t *testing.T) {
	for c := range 256 {
		b := string([]byte{byte(c)})
		if c >= 1 && c <= 14 {
			wantFault(t, b, 1, api.ErrShort)
			continue
		}
		wantFault(t, b, 0, api.ErrForm)
		wantFault(t, b+"\x07\x01", 0, api.ErrForm)
	}
}

func TestIDByte(t *testing.T) {
	for kind := 1; kind <= 14; kind++ {
		head := string([]byte{byte(kind), 5})
		if kind > 2 {
			wantFault(t, head+"\x00", 2, api.ErrForm)
			wantFault(t, head+"\x80", 3, api.ErrShort)
			wantFault(t, head+"\x80\x00", 3, api.ErrForm)
			wantFault(t, head+nine, 11, api.ErrShort)
			wantFault(t, head+nine+"\x02", 11, api.ErrForm)
			continue
		}
		for _, id := range []string{"\x01", "\x7f", "\x80", "\x80\x00", "\x80\x01", nine + "\x02"} {
			wantFault(t, head+id, 2, api.ErrForm)
		}
		wantFault(t, head+"\x00", 3, api.ErrShort)
	}
}

func TestTimeBytes(t *testing.T) {
	for kind := 1; kind <= 14; kind++ {
		head := string([]byte{byte(kind)})
		wantFault(t, head+"\x80", 2, api.ErrShort)
		wantFault(t, head+"\x80\x00", 2, api.ErrForm)
		wantFault(t, head+"\x80\x80\x00", 3, api.ErrForm)
		wantFault(t, head+nine, 10, api.ErrShort)
		wantFault(t, head+nine+"\x01", 11, api.ErrShort)
		wantFault(t, head+nine+"\x02", 10, api.ErrForm)
		wantFault(t, head+nine+"\x81", 10, api.ErrForm)
	}
}

// TestTextNumber: the number of each text, those ahead being empty, at its limit, above it, cut off, and wrong.
func TestTextNumber(t *testing.T) {
	for kind := 1; kind <= 14; kind++ {
		for i := range textsOf(kind) {
			b := written(least(kind))[:3+i]
			wantFault(t, b, 3+i, api.ErrShort)
			wantFault(t, b+"\x01", 4+i, api.ErrShort)
			wantFault(t, b+"\x80\x20", 5+i, api.ErrShort)
			wantFault(t, b+"\x80\x20"+strings.Repeat("x", 4095), 5+i+4095, api.ErrShort)
			wantFault(t, b+"\x81\x20", 4+i, api.ErrLimit)
			wantFault(t, b+"\x81\x20"+strings.Repeat("x", 4097), 4+i, api.ErrLimit)
			wantFault(t, b+"\x80\x80\x01", 5+i, api.ErrLimit)
			wantFault(t, b+nine+"\x01", 12+i, api.ErrLimit)
			wantFault(t, b+"\x80", 4+i, api.ErrShort)
			wantFault(t, b+"\x80\x00", 4+i, api.ErrForm)
			wantFault(t, b+"\x81\xa0\x00", 5+i, api.ErrForm)
			wantFault(t, b+nine+"\x02", 12+i, api.ErrForm)
			// A number that is cut off is short, even if it can only become one above the limit.
			wantFault(t, b+"\x80\x80", 5+i, api.ErrShort)
			wantFault(t, b+nine, 12+i, api.ErrShort)
		}
	}
}

func TestNumberBytes(t *testing.T) {
	for kind := 1; kind <= 14; kind++ {
		whole := written(least(kind))
		limits := limitsOf(kind)
		at := len(whole) - len(limits)
		for i, limit := range limits {
			if limit == 1000 {
				continue
			}
			for c := range 256 {
				b := whole[:at+i] + string([]byte{byte(c)}) + whole[at+i+1:]
				if c >= limit {
					wantFault(t, b, at+i, api.ErrForm)
					wantFault(t, b[:at+i+1], at+i, api.ErrForm)
					continue
				}
				e := least(kind)
				*numberOf(&e, i) = c
				wantDecode(t, b, e, len(b), api.OK)
			}
		}
	}
}

func TestStatusBytes(t *testing.T) {
	for _, kind := range []int{api.PreDone, api.Response} {
		head := string([]byte{byte(kind), 0, 1})
		for n := range 1 << 16 {
			b := head + string([]byte{byte(n >> 8), byte(n)})
			switch {
			case n < 1000:
				wantDecode(t, b, api.Event{Kind: kind, ID: 1, X: n}, 5, api.OK)
			case n < 1024:
				wantFault(t, b, 4, api.ErrForm)
			default:
				wantFault(t, b, 3, api.ErrForm)
			}
		}
		wantFault(t, head, 3, api.ErrShort)
		wantFault(t, head+"\x03", 4, api.ErrShort)
		wantFault(t, head+"\x04", 3, api.ErrForm)
		wantFault(t, head+"\xff", 3, api.ErrForm)
	}
}

func TestCutOff(t *testing.T) {
	for _, e := range some() {
		b := written(e)
		for cut := range len(b) {
			wantFault(t, b[:cut], cut, api.ErrShort)
		}
	}
}

func TestBehind(t *testing.T) {
	for _, e := range some() {
		b := written(e)
		for c := range 256 {
			wantFault(t, b+string([]byte{byte(c)}), len(b), api.ErrEnd)
		}
		wantFault(t, b+b, len(b), api.ErrEnd)
		wantFault(t, b+strings.Repeat("\x00", 300), len(b), api.ErrEnd)
	}
}

// TestEachByteAnother: an event with one byte changed is another event, or wrong where the slow one says.
func TestEachByteAnother(t *testing.T) {
	for _, e := range some() {
		b := []byte(written(e))
		// Longer ones have nothing but more of a text.
		if len(b) > 150 {
			continue
		}
		for at, c := range b {
			for d := range 256 {
				b[at] = byte(d)
				wantSlow(t, string(b))
				if x, _, f := Decode(b); f == api.OK && (x == e) != (byte(d) == c) {
					t.Errorf("%x: %v", b, x)
				}
			}
			b[at] = c
		}
	}
}

// TestEachByteGone: an event with a byte left out, or put in between, is what the slow one says.
func TestEachByteGone(t *testing.T) {
	for _, e := range some() {
		b := written(e)
		for at := range len(b) {
			wantSlow(t, b[:at]+b[at+1:])
			for _, c := range []string{"\x00", "\x01", "\x7f", "\x80", "\xff"} {
				wantSlow(t, b[:at]+c+b[at:])
			}
		}
	}
}

// rows are all rows of up to four bytes out of those at the edges, behind each kind, and behind what is none.
func rows() []string {
	const edges = "\x00\x01\x02\x03\x04\x20\x7f\x80\x81\xe7\xe8\xff"
	l := []string{"\x00", "\x0f", "\x10", "\x80", "\x81", "\xff"}
	for kind := range 14 {
		l = append(l, string([]byte{byte(kind + 1)}))
	}
	for from, size := 0, 1; size <= 4; size++ {
		till := len(l)
		for _, s := range l[from:till] {
			for _, c := range []byte(edges) {
				l = append(l, s+string([]byte{c}))
			}
		}
		from = till
	}
	return l
}

func TestRows(t *testing.T) {
	for _, b := range rows() {
		wantSlow(t, b)
	}
}

// TestBackAndForth: what is an event is written back byte by byte.
func TestBackAndForth(t *testing.T) {
	for _, b := range rows() {
		e, at, f := Decode([]byte(b))
		if f != api.OK {
			continue
		}
		if c, g := Encode(e); string(c) != b || g != api.OK || at != len(b) || !Right(e) {
			t.Errorf("%x is %v, which is %x, %v", b, e, c, g)
		}
	}
}

// TestFaultStays: what is wrong at a place is so whatever stands behind it, and short if it is cut off there.
func TestFaultStays(t *testing.T) {
	for _, b := range rows() {
		_, at, f := Decode([]byte(b))
		switch f {
		case api.OK, api.ErrShort:
			continue
		case api.ErrEnd:
			if e, k, g := Decode([]byte(b[:at])); e.Kind != int(b[0]) || k != at || g != api.OK {
				t.Errorf("%x, ahead of what is behind: %v, %d, %v", b[:at], e, k, g)
			}
		default:
			wantFault(t, b[:at], at, api.ErrShort)
		}
		for _, behind := range []string{"", "\x00", "\x01", "\x80", "\xff\xff"} {
			wantFault(t, b[:at+1]+behind, at, f)
		}
	}
}

// TestShortBeginsOne: what is short becomes an event by the least bytes that may follow, unless a text's number is too great.
func TestShortBeginsOne(t *testing.T) {
	short := 0
	for i, b := range rows() {
		if _, _, f := Decode([]byte(b)); f != api.ErrShort || i%7 != 0 {
			continue
		}
		short++
		if f := finish(b); f != api.OK && f != api.ErrLimit {
			t.Errorf("%x is short, but begins none: %v", b, f)
		}
	}
	if short < 1000 {
		t.Errorf("only %d are short", short)
	}
}

// finish puts bytes behind b until it is short no more: 0 where that may be, else 1.
func finish(b string) api.Errno {
	for range 4 * 5000 {
		_, at, f := Decode([]byte(b))
		switch {
		case f == api.ErrForm && at == len(b)-1 && b[at] == 0:
			b = b[:at] + "\x01"
		case f != api.ErrShort:
			return f
		default:
			b += "\x00"
		}
	}
	return api.ErrShort
}

func TestFirstFault(t *testing.T) {
	for _, x := range []struct {
		b  string
		at int
		e  api.Errno
	}{
		{"\x0f\x80\x00\x00\xff\xff", 0, api.ErrForm},          // the kind, ahead of all
		{"\x00", 0, api.ErrForm},                              // the kind, ahead of what is missing
		{"\x01\x80\x00\x01\x81\x20", 2, api.ErrForm},          // the time, ahead of the ID
		{"\x01\x00\x01\x81\x20", 2, api.ErrForm},              // the ID, ahead of the text
		{"\x04\x00\x00", 2, api.ErrForm},                      // the ID, ahead of what is missing
		{"\x04\x00\x01\x81\x20", 4, api.ErrLimit},             // the text's length, ahead of what is missing
		{"\x04\x00\x01\x81\x20\x81\x00", 4, api.ErrLimit},     // the first text, ahead of the second one
		{"\x04\x00\x01\x02a", 5, api.ErrShort},                // the end, ahead of the second text
		{"\x04\x00\x01\x00\x81\x20", 5, api.ErrLimit},         // the second text
		{"\x03\x00\x01\x00\x00\x00\x81\x20", 7, api.ErrLimit}, // the fourth text, ahead of the numbers
		{"\x03\x00\x01\x00\x00\x00\x80\x00\x04", 7, api.ErrForm},
		{"\x03\x00\x01\x00\x00\x00\x00\x04\x03\x03", 7, api.ErrForm},     // X, ahead of Y and Z
		{"\x03\x00\x01\x00\x00\x00\x00\x03\x03\x03", 8, api.ErrForm},     // Y, ahead of Z
		{"\x03\x00\x01\x00\x00\x00\x00\x03\x02\x03\x00", 9, api.ErrForm}, // Z, ahead of what is behind
		{"\x03\x00\x01\x00\x00\x00\x00\x03\x02\x02\x03", 10, api.ErrEnd},
		{"\x03\x00\x01\x00\x00\x00\x00\x04", 7, api.ErrForm}, // X, ahead of what is missing
		{"\x0a\x00\x01\x04", 3, api.ErrForm},                 // a status' first byte, ahead of what is missing
		{"\x0a\x00\x01\x04\xe8\x00", 3, api.ErrForm},         // and ahead of its second one
		{"\x0a\x00\x01\x03\xe8\x00", 4, api.ErrForm},         // its second one, ahead of what is behind
		{"\x0e\x00\x01\x04\x00", 3, api.ErrForm},
		{"\x0e\x00\x01\x03\x00", 4, api.ErrEnd},
		{"\x08\x00\x01\x80\x00", 3, api.ErrEnd},
	} {
		wantFault(t, x.b, x.at, x.e)
	}
}

// TestStirred: bytes without a plan, behind a beginning that is right, are what the slow one says.
func TestStirred(t *testing.T) {
	x := uint32(1)
	stir := func() byte {
		x = x*1664525 + 1013904223
		return byte(x >> 24)
	}
	for _, e := range some() {
		b := written(e)
		for range 40 {
			cut := int(stir()) % (len(b) + 1)
			c := []byte(b[:cut])
			for range int(stir()) % 24 {
				c = append(c, stir()>>(stir()%8))
			}
			wantSlow(t, string(c))
		}
	}
}

// TestDecodeOwn: bytes that are read stay as they were, what stands behind them is not read, and an event does not hang on them.
func TestDecodeOwn(t *testing.T) {
	for _, x := range examples() {
		room := []byte(x.b + "\x00\x01\x02")
		before := slices.Clone(room)
		for cut := range len(x.b) {
			if _, at, f := Decode(room[:cut]); at != cut || f != api.ErrShort {
				t.Errorf("%x, with room behind: %d, %v", room[:cut], at, f)
			}
		}
		e, at, f := Decode(room[:len(x.b)])
		if !slices.Equal(room, before) {
			t.Errorf("what was handed in is now %x", room)
		}
		for i := range room {
			room[i] = '#'
		}
		if e != x.e || at != len(x.b) || f != api.OK {
			t.Errorf("%x: %v, %d, %v", x.b, e, at, f)
		}
	}
}
