package number

import (
	"bytes"
	"encoding/binary"
	"math"
	"strings"
	"testing"

	"transept/api"
)

// nine begins numbers of ten bytes alone.
var nine = strings.Repeat("\xff", 9)

// numbers are those at whose size something changes, and the neighbours of each.
func numbers() []uint64 {
	l := []uint64{0, 1, 2, 300, 1<<64 - 2, 1<<64 - 1}
	for bit := 1; bit < 64; bit++ {
		l = append(l, 1<<bit-1, 1<<bit, 1<<bit+1)
	}
	return l
}

// rows are all rows of up to four bytes out of those at the edges.
func rows() []string {
	const edges = "\x00\x01\x02\x7f\x80\x81\xff"
	l := []string{""}
	for from, size := 0, 1; size <= 4; size++ {
		till := len(l)
		for _, s := range l[from:till] {
			for _, c := range []byte(edges) {
				l = append(l, s+string([]byte{c}))
			}
		}
		from = till
	}
	return l
}

func wantGet(t *testing.T, b string, n uint64, size int, e api.Errno) {
	t.Helper()
	if m, k, f := Get([]byte(b)); m != n || k != size || f != e {
		t.Errorf("Get(%x): %d, %d, %v; want %d, %d, %v", b, m, k, f, n, size, e)
	}
}

func wantText(t *testing.T, b string, most int, s string, size int, e api.Errno) {
	t.Helper()
	if r, k, f := Text([]byte(b), most); r != s || k != size || f != e {
		t.Errorf("Text(%x, %d): %q, %d, %v; want %q, %d, %v", b, most, r, k, f, s, size, e)
	}
}

// wantOwn: an answer behind b leaves b's spare room as it was, and shares no memory with b.
func wantOwn(t *testing.T, put func(b []byte) []byte) {
	t.Helper()
	room := []byte("ab..............")
	out := put(room[:2])
	if string(room) != "ab.............." {
		t.Errorf("what was handed in is now %q", room)
	}
	before := string(out)
	copy(room, "################")
	if string(out) != before {
		t.Errorf("the answer hangs on what was handed in: %x, %x", before, out)
	}
	again := put([]byte("ab"))
	again[0] = '#'
	if string(out) != before {
		t.Errorf("two answers hang together: %x, %x", before, out)
	}
}

// A1.

func TestPutBytes(t *testing.T) {
	for _, x := range []struct {
		n uint64
		b string
	}{
		{0, "\x00"}, {1, "\x01"}, {127, "\x7f"}, {128, "\x80\x01"}, {300, "\xac\x02"},
		{16383, "\xff\x7f"}, {16384, "\x80\x80\x01"},
		{1<<63 - 1, "\xff\xff\xff\xff\xff\xff\xff\xff\x7f"},
		{1 << 63, "\x80\x80\x80\x80\x80\x80\x80\x80\x80\x01"},
		{math.MaxUint64, nine + "\x01"},
	} {
		for _, ahead := range []string{"", "x", "\x80\x80"} {
			if b := Put([]byte(ahead), x.n); string(b) != ahead+x.b {
				t.Errorf("Put(%x, %d): %x", ahead, x.n, b)
			}
		}
		if b := Put(nil, x.n); string(b) != x.b {
			t.Errorf("Put(nil, %d): %x", x.n, b)
		}
	}
}

func TestPutIsLEB128(t *testing.T) {
	for _, n := range numbers() {
		if b, want := Put(nil, n), binary.AppendUvarint(nil, n); !bytes.Equal(b, want) {
			t.Errorf("Put(nil, %d): %x, want %x", n, b, want)
		}
	}
}

func TestPutOwn(t *testing.T) {
	for _, n := range []uint64{0, 300, math.MaxUint64} {
		wantOwn(t, func(b []byte) []byte { return Put(b, n) })
	}
}

func TestGetBack(t *testing.T) {
	for _, n := range numbers() {
		b := string(Put(nil, n))
		for _, behind := range []string{"", "\x00", "\x80", "\xff\xff", "z"} {
			wantGet(t, b+behind, n, len(b), api.OK)
		}
	}
}

func TestGetShort(t *testing.T) {
	wantGet(t, "", 0, 0, api.ErrShort)
	if n, size, e := Get(nil); n != 0 || size != 0 || e != api.ErrShort {
		t.Errorf("Get(nil): %d, %d, %v", n, size, e)
	}
	for _, n := range numbers() {
		b := string(Put(nil, n))
		for cut := range len(b) {
			wantGet(t, b[:cut], 0, cut, api.ErrShort)
		}
	}
}

func TestGetNeedlessByte(t *testing.T) {
	for _, c := range []string{"\x80", "\x81", "\xff"} {
		for at := 1; at <= 9; at++ {
			b := strings.Repeat(c, at) + "\x00"
			wantGet(t, b, 0, at, api.ErrForm)
			wantGet(t, b+"\x01", 0, at, api.ErrForm)
		}
	}
	wantGet(t, "\x00\x00", 0, 1, api.OK)
	wantGet(t, "\x80\x80\x01", 16384, 3, api.OK)
}

func TestGetTenthByte(t *testing.T) {
	wantGet(t, nine, 0, 9, api.ErrShort)
	wantGet(t, nine+"\x01", math.MaxUint64, 10, api.OK)
	wantGet(t, nine+"\x01\x01", math.MaxUint64, 10, api.OK)
	for c := range 256 {
		if c == 1 {
			continue
		}
		for _, behind := range []string{"", "\x00", "\x01"} {
			wantGet(t, nine+string([]byte{byte(c)})+behind, 0, 9, api.ErrForm)
		}
	}
}

// TestGetOneRow: what is a number is what Put tells of it; all else is short or wrong at a place ahead of which it is short.
func TestGetOneRow(t *testing.T) {
	for _, b := range rows() {
		n, size, e := Get([]byte(b))
		switch e {
		case api.OK:
			if string(Put(nil, n)) != b[:size] {
				t.Errorf("%x is %d, which is %x", b, n, Put(nil, n))
			}
		case api.ErrShort:
			if n != 0 || size != len(b) {
				t.Errorf("%x: %d, %d, %v", b, n, size, e)
			}
			wantGet(t, b+"\x01", back(b+"\x01"), len(b)+1, api.OK)
		case api.ErrForm:
			if n != 0 || size >= len(b) {
				t.Fatalf("%x: %d, %d, %v", b, n, size, e)
			}
			wantGet(t, b[:size], 0, size, api.ErrShort)
		default:
			t.Errorf("%x: %v", b, e)
		}
	}
}

// back is the number of these bytes as the library reads it.
func back(b string) uint64 {
	n, _ := binary.Uvarint([]byte(b))
	return n
}

// A2.

func TestPutTextBytes(t *testing.T) {
	for _, x := range []struct{ s, b string }{
		{"", "\x00"}, {"hi", "\x02hi"}, {"\x00\xff", "\x02\x00\xff"}, {"é", "\x02\xc3\xa9"},
		{strings.Repeat("a", 127), "\x7f" + strings.Repeat("a", 127)},
		{strings.Repeat("a", 128), "\x80\x01" + strings.Repeat("a", 128)},
		{strings.Repeat("a", 16384), "\x80\x80\x01" + strings.Repeat("a", 16384)},
	} {
		for _, ahead := range []string{"", "x", "\x80\x80"} {
			if b := PutText([]byte(ahead), x.s); string(b) != ahead+x.b {
				t.Errorf("PutText(%x, %d bytes): %x", ahead, len(x.s), b)
			}
		}
		if b := PutText(nil, x.s); string(b) != x.b {
			t.Errorf("PutText(nil, %d bytes): %x", len(x.s), b)
		}
	}
}

func TestPutTextOwn(t *testing.T) {
	for _, s := range []string{"", "hi", strings.Repeat("a", 200)} {
		wantOwn(t, func(b []byte) []byte { return PutText(b, s) })
	}
}

func TestTextBack(t *testing.T) {
	for _, size := range []int{0, 1, 2, 126, 127, 128, 129, 4095, 4096, 16383, 16384} {
		s := strings.Repeat("\xc3", size)
		b := string(PutText(nil, s))
		for _, behind := range []string{"", "\x00", "z"} {
			for _, most := range []int{size, size + 1, math.MaxInt} {
				wantText(t, b+behind, most, s, len(b), api.OK)
			}
		}
	}
}

func TestTextLimit(t *testing.T) {
	for _, size := range []int{1, 2, 127, 128, 4096, 16384} {
		b := string(PutText(nil, strings.Repeat("a", size)))
		last := len(b) - size - 1
		for _, most := range []int{size - 1, 0, -1, math.MinInt} {
			wantText(t, b, most, "", last, api.ErrLimit)
			wantText(t, b[:last+1], most, "", last, api.ErrLimit)
		}
	}
	wantText(t, "\x00", 0, "", 1, api.OK)
	wantText(t, "\x00", -1, "", 0, api.ErrLimit)
	wantText(t, "\x00", math.MinInt, "", 0, api.ErrLimit)
}

// TestTextGreat: a length that no int holds is above any most, and the greatest that one holds is not.
func TestTextGreat(t *testing.T) {
	wantText(t, nine+"\x01", math.MaxInt, "", 9, api.ErrLimit)
	wantText(t, nine+"\x01", -1, "", 9, api.ErrLimit)
	wantText(t, string(Put(nil, 1<<63))+"abc", math.MaxInt, "", 9, api.ErrLimit)
	b := string(Put(nil, math.MaxInt))
	wantText(t, b+"abc", math.MaxInt, "", len(b)+3, api.ErrShort)
	wantText(t, b+"abc", math.MaxInt-1, "", len(b)-1, api.ErrLimit)
}

func TestTextShort(t *testing.T) {
	for _, size := range []int{0, 1, 3, 127, 128, 200} {
		b := string(PutText(nil, strings.Repeat("a", size)))
		for cut := range len(b) {
			wantText(t, b[:cut], size, "", cut, api.ErrShort)
			wantText(t, b[:cut], math.MaxInt, "", cut, api.ErrShort)
		}
	}
	if s, size, e := Text(nil, 5); s != "" || size != 0 || e != api.ErrShort {
		t.Errorf("Text(nil, 5): %q, %d, %v", s, size, e)
	}
	// A number that is cut off goes ahead of any most.
	wantText(t, "", -1, "", 0, api.ErrShort)
	wantText(t, "\x80", -1, "", 1, api.ErrShort)
	wantText(t, "\xff\xff", 3, "", 2, api.ErrShort)
}

func TestTextForm(t *testing.T) {
	for _, most := range []int{-1, 0, 5, math.MaxInt} {
		wantText(t, "\x80\x00", most, "", 1, api.ErrForm)
		wantText(t, "\x82\x80\x00hi", most, "", 2, api.ErrForm)
		wantText(t, nine+"\x02", most, "", 9, api.ErrForm)
		wantText(t, nine+"\x81", most, "", 9, api.ErrForm)
	}
}

// TestTextOneRow: what is a text is what PutText tells of it, and no beginning of that is one.
func TestTextOneRow(t *testing.T) {
	for _, b := range rows() {
		s, size, e := Text([]byte(b), 3)
		if e != api.OK {
			if s != "" {
				t.Errorf("%x: %q beside %v", b, s, e)
			}
			continue
		}
		if string(PutText(nil, s)) != b[:size] {
			t.Errorf("%x is %q, which is %x", b, s, PutText(nil, s))
		}
		for cut := range size {
			wantText(t, b[:cut], 3, "", cut, api.ErrShort)
		}
	}
}

// TestReadOnly: bytes that are read stay as they were, and a text does not hang on them.
func TestReadOnly(t *testing.T) {
	b := []byte("\x02hi!")
	Get(b)
	s, _, _ := Text(b, 2)
	if string(b) != "\x02hi!" {
		t.Errorf("what was handed in is now %q", b)
	}
	copy(b, "####")
	if s != "hi" {
		t.Errorf("the text hangs on what was handed in: %q", s)
	}
}
