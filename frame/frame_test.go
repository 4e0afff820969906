package frame

import (
	"bytes"
	"encoding/binary"
	"hash/crc32"
	"math"
	"slices"
	"strings"
	"testing"

	"transept/api"
)

// stirred is a text in which each byte stands at several places.
func stirred(size int) string {
	b := make([]byte, size)
	x := uint32(size)
	for i := range b {
		x = x*1664525 + 1013904223
		b[i] = byte(x >> 24)
	}
	return string(b)
}

// framed is a frame by the library's means.
func framed(body string) string {
	b := binary.AppendUvarint(nil, uint64(len(body)))
	b = append(b, body...)
	return string(binary.LittleEndian.AppendUint32(b, crc32.ChecksumIEEE([]byte(body))))
}

// logged is a log by the library's means, of bodies that need be neither few nor short.
func logged(bodies ...string) string {
	var b strings.Builder
	b.WriteString("TRN1")
	for _, body := range bodies {
		b.WriteString(framed(body))
	}
	return b.String()
}

// asBytes are bodies as Join and At take them.
func asBytes(bodies []string) (l [][]byte) {
	for _, body := range bodies {
		l = append(l, []byte(body))
	}
	return l
}

// asTexts are bodies as Split tells them.
func asTexts(bodies [][]byte) (l []string) {
	for _, body := range bodies {
		l = append(l, string(body))
	}
	return l
}

// some are bodies of each size of a number, empty ones first, last and between.
func some() []string {
	return []string{"", "a", "", "TRN1", "\x00", "\x80\x00", stirred(127), stirred(128), stirred(300), stirred(16383), stirred(16384), "b", ""}
}

// few are bodies of a log that is short enough to change each of its bytes to all others.
func few() []string {
	return []string{"", "a", stirred(130), "", "b\x00"}
}

// slow is Split as the chapter's words tell it, one byte behind the other.
func slow(b string) (bodies []string, at int, e api.Errno) {
	if len(b) > 1048576 {
		bodies, at, e = slow(b[:1048576])
		if e == api.OK || e == api.ErrShort {
			return bodies, 1048576, api.ErrLimit
		}
		return bodies, at, e
	}
	var head, body, tail []byte
	want := -1
	for i := range len(b) {
		c := b[i]
		switch {
		case i < 4:
			if c != "TRN1"[i] {
				return nil, i, api.ErrForm
			}
		case want < 0:
			if len(head) == 0 && len(bodies) == 4096 {
				return bodies, i, api.ErrLimit
			}
			head = append(head, c)
			if len(head) > 1 && c == 0 || len(head) == 10 && c > 1 {
				return bodies, i, api.ErrForm
			}
			if c >= 0x80 {
				continue
			}
			n, _ := binary.Uvarint(head)
			if n > 20000 {
				return bodies, i, api.ErrLimit
			}
			want = int(n)
		case len(body) < want:
			body = append(body, c)
		default:
			if c != byte(crc32.ChecksumIEEE(body)>>(8*len(tail))) {
				return bodies, i, api.ErrSum
			}
			if tail = append(tail, c); len(tail) == 4 {
				bodies = append(bodies, string(body))
				head, body, tail, want = nil, nil, nil, -1
			}
		}
	}
	if len(b) < 4 || len(head) > 0 {
		return bodies, len(b), api.ErrShort
	}
	return bodies, len(b), api.OK
}

func wantSplit(t *testing.T, b string, bodies []string, at int, e api.Errno) {
	t.Helper()
	l, k, f := Split([]byte(b))
	if k != at || f != e {
		t.Errorf("Split(%.60q, %d bytes): %d, %v; want %d, %v", b, len(b), k, f, at, e)
	}
	if !slices.Equal(asTexts(l), bodies) {
		t.Errorf("Split(%.60q, %d bytes): %d bodies that are not the %d that they should be", b, len(b), len(l), len(bodies))
	}
}

// wantSlow: Split is what the slow one tells.
func wantSlow(t *testing.T, b string) {
	t.Helper()
	bodies, at, e := slow(b)
	wantSplit(t, b, bodies, at, e)
}

func wantJoin(t *testing.T, bodies []string, b string) {
	t.Helper()
	got, e := Join(asBytes(bodies))
	if string(got) != b || e != api.OK {
		t.Errorf("Join of %d bodies: %.60q, %d bytes, %v; want %.60q, %d bytes", len(bodies), got, len(got), e, b, len(b))
	}
}

func wantTooMuch(t *testing.T, bodies []string) {
	t.Helper()
	if b, e := Join(asBytes(bodies)); b != nil || e != api.ErrLimit {
		t.Errorf("Join of %d bodies: %d bytes, %v", len(bodies), len(b), e)
	}
}

// full are bodies whose log has MaxLog bytes, and more by so many: 52 frames of 20007 bytes, and one of 8208.
func full(more int) []string {
	l := slices.Repeat([]string{stirred(20000)}, 52)
	return append(l, stirred(8202+more))
}

// fullOfMany is full of MaxEvents bodies: 4095 frames of 256 bytes, and one of 252.
func fullOfMany(more int) []string {
	l := slices.Repeat([]string{stirred(250)}, 4095)
	return append(l, stirred(246+more))
}

// D1.

func TestSplitExamples(t *testing.T) {
	wantSplit(t, "TRN1", nil, 4, api.OK)
	wantSplit(t, "TRN1\x00\x00\x00\x00\x00", []string{""}, 9, api.OK)
	wantSplit(t, "TRN1\x09123456789\x26\x39\xF4\xCB", []string{"123456789"}, 18, api.OK)
	wantSplit(t, "TRN1\x01a\x43\xBE\xB7\xE8\x00\x00\x00\x00\x00\x01a\x43\xBE\xB7\xE8", []string{"a", "", "a"}, 21, api.OK)
}

func TestSplitBodies(t *testing.T) {
	for till := range len(some()) + 1 {
		b := logged(some()[:till]...)
		wantSplit(t, b, some()[:till], len(b), api.OK)
	}
}

func TestSplitNothing(t *testing.T) {
	for _, b := range [][]byte{nil, {}} {
		if l, at, e := Split(b); len(l) != 0 || at != 0 || e != api.ErrShort {
			t.Errorf("Split of no bytes: %q, %d, %v", l, at, e)
		}
	}
}

func TestSplitCutOff(t *testing.T) {
	bodies := few()
	b := logged(bodies...)
	ends := map[int]int{}
	for till := range len(bodies) + 1 {
		ends[len(logged(bodies[:till]...))] = till
	}
	whole := 0
	for cut := range len(b) {
		if till, ok := ends[cut]; ok {
			whole = till
			wantSplit(t, b[:cut], bodies[:whole], cut, api.OK)
			continue
		}
		wantSplit(t, b[:cut], bodies[:whole], cut, api.ErrShort)
	}
}

func TestSplitOpening(t *testing.T) {
	for _, behind := range []string{"", "\x00", framed("a"), "\x80\x00"} {
		for at := range 4 {
			for c := range 256 {
				if byte(c) == "TRN1"[at] {
					continue
				}
				b := "TRN1"[:at] + string([]byte{byte(c)}) + "TRN1"[at+1:]
				wantSplit(t, b+behind, nil, at, api.ErrForm)
				wantSplit(t, b[:at+1], nil, at, api.ErrForm)
			}
		}
	}
	wantSplit(t, "trn1", nil, 0, api.ErrForm)
	wantSplit(t, "1NRT", nil, 0, api.ErrForm)
	wantSplit(t, "TRX", nil, 2, api.ErrForm)
}

// TestSplitAnotherByte: each byte of a log is each other one, alone and with the log cut off there.
func TestSplitAnotherByte(t *testing.T) {
	b := []byte(logged(few()...))
	for at, was := range b {
		for c := range 256 {
			b[at] = byte(c)
			wantSlow(t, string(b))
			wantSlow(t, string(b[:at+1]))
		}
		b[at] = was
	}
}

func TestSplitNumber(t *testing.T) {
	ahead := []string{"", "abc"}
	b := logged(ahead...)
	nine := strings.Repeat("\xFF", 9)
	for _, behind := range []string{"", "\x00", "\x01", framed("a")} {
		wantSplit(t, b+"\x80\x00"+behind, ahead, len(b)+1, api.ErrForm)
		wantSplit(t, b+"\x81\x80\x00"+behind, ahead, len(b)+2, api.ErrForm)
		wantSplit(t, b+"\xA1\x9C\x81\x00"+behind, ahead, len(b)+3, api.ErrForm)
		wantSplit(t, b+nine+"\x00"+behind, ahead, len(b)+9, api.ErrForm)
		wantSplit(t, b+nine+"\x02"+behind, ahead, len(b)+9, api.ErrForm)
		wantSplit(t, b+nine+"\x81"+behind, ahead, len(b)+9, api.ErrForm)
		wantSplit(t, b+nine+"\x01"+behind, ahead, len(b)+9, api.ErrLimit)
		wantSplit(t, b+"\xFF\xFF\xFF\xFF\xFF\xFF\xFF\xFF\x7F"+behind, ahead, len(b)+8, api.ErrLimit)
		wantSplit(t, b+"\x80\x80\x80\x80\x10"+behind, ahead, len(b)+4, api.ErrLimit)
	}
	wantSplit(t, b+nine, ahead, len(b)+9, api.ErrShort)
	wantSplit(t, b+"\xA1\x9C", ahead, len(b)+2, api.ErrShort)
}

func TestSplitSum(t *testing.T) {
	for ahead := range 3 {
		l := some()[:ahead]
		for _, body := range []string{"", "a", stirred(200)} {
			b := []byte(logged(append(slices.Clone(l), body)...) + framed("x"))
			first := len(b) - len(framed("x")) - 4
			for at := first; at < first+4; at++ {
				for bit := range 8 {
					b[at] ^= 1 << bit
					wantSplit(t, string(b), l, at, api.ErrSum)
					wantSplit(t, string(b[:at+1]), l, at, api.ErrSum)
					wantSplit(t, string(b[:at]), l, at, api.ErrShort)
					b[at] ^= 1 << bit
				}
			}
		}
	}
}

// TestSplitSumHighestFirst: the CRC's bytes the other way round are wrong from the first one on.
func TestSplitSumHighestFirst(t *testing.T) {
	wantSplit(t, "TRN1\x01a\xE8\xB7\xBE\x43", nil, 6, api.ErrSum)
}

func TestSplitEvents(t *testing.T) {
	for _, count := range []int{4095, 4096} {
		l := slices.Repeat([]string{""}, count)
		b := logged(l...)
		wantSplit(t, b, l, len(b), api.OK)
	}
	l := slices.Repeat([]string{"", "ab"}, 2048)
	b := logged(l...)
	for _, behind := range []string{framed(""), framed("") + framed(""), "\x00", "\x80", "\x80\x00", "\xA1\x9C\x01", "\x01a\x43\xBF"} {
		wantSplit(t, b+behind, l, len(b), api.ErrLimit)
	}
	b = logged(l[:4095]...)
	wantSplit(t, b+"\x80", l[:4095], len(b)+1, api.ErrShort)
	wantSplit(t, b+"\x80\x00", l[:4095], len(b)+1, api.ErrForm)
	wantSplit(t, b+"\xA1\x9C\x01", l[:4095], len(b)+2, api.ErrLimit)
	wantSplit(t, b+"\x01a\x43\xBF", l[:4095], len(b)+3, api.ErrSum)
}

func TestSplitFrame(t *testing.T) {
	for _, size := range []int{19999, 20000} {
		l := []string{"", stirred(size), "z"}
		b := logged(l...)
		wantSplit(t, b, l, len(b), api.OK)
	}
	for _, size := range []int{20001, 20002, 40000} {
		b := logged("", stirred(size), "z")
		for _, till := range []int{len(b), 12, 13, 20000} {
			wantSplit(t, b[:till], []string{""}, 11, api.ErrLimit)
		}
		wantSplit(t, b[:11], []string{""}, 11, api.ErrShort)
	}
}

func TestSplitLog(t *testing.T) {
	for _, bodies := range []func(int) []string{full, fullOfMany} {
		for _, more := range []int{-1, 0} {
			l := bodies(more)
			wantSplit(t, logged(l...), l, 1048576+more, api.OK)
		}
		for _, more := range []int{1, 4, 5, 50} {
			l := bodies(more)
			b := logged(l...)
			if len(b) != 1048576+more {
				t.Fatalf("a log of %d bytes", len(b))
			}
			wantSplit(t, b, l[:len(l)-1], 1048576, api.ErrLimit)
		}
	}
}

// TestSplitLogFrameBehind: what ends with MaxLog bytes, and something behind.
func TestSplitLogFrameBehind(t *testing.T) {
	for _, l := range [][]string{full(0), fullOfMany(0)} {
		b := logged(l...)
		for _, behind := range []string{"\x00", "\x80", "\x80\x00", "\xA1\x9C\x01", framed(""), framed("a"), strings.Repeat("T", 3000000)} {
			wantSplit(t, b+behind, l, 1048576, api.ErrLimit)
		}
	}
	l := fullOfMany(-1)
	b := logged(l...)
	for _, behind := range []string{"\x00", "\x80", framed("a"), strings.Repeat("T", 3000000)} {
		wantSplit(t, b+behind, l, 1048575, api.ErrLimit)
	}
}

// TestSplitLogFault: a fault at the last place that counts, and the same a byte later, of logs that are too long.
func TestSplitLogFault(t *testing.T) {
	for _, x := range []struct {
		fault string // a frame
		at    int    // the place in it
		e     api.Errno
	}{
		{"\x80\x00", 1, api.ErrForm},
		{"\xFF\xFF\xFF\xFF\xFF\xFF\xFF\xFF\xFF\x02", 9, api.ErrForm},
		{"\xA1\x9C\x01", 2, api.ErrLimit},
		{"\x00\x01", 1, api.ErrSum},
		{"\x00\x00\x00\x00\x01", 4, api.ErrSum},
		{"\x01a\x43\xBE\xB6", 4, api.ErrSum},
	} {
		for _, later := range []int{-2, -1, 0, 1, 2} {
			ahead := full(later - 6 - x.at - 1)
			ahead = append(ahead, "z")
			b := logged(ahead...)
			place := len(b) + x.at
			if place != 1048575+later {
				t.Fatalf("the fault stands at %d", place)
			}
			b += x.fault
			for _, behind := range []string{strings.Repeat("\x00", 4), strings.Repeat(framed("a"), 10000)} {
				if later > 0 {
					wantSplit(t, b+behind, ahead, 1048576, api.ErrLimit)
				} else {
					wantSplit(t, b+behind, ahead, place, x.e)
				}
			}
		}
	}
}

// TestSplitLogFaultAhead: in what is far too long, all faults count that stand far ahead.
func TestSplitLogFaultAhead(t *testing.T) {
	behind := strings.Repeat(framed("abc"), 200000)
	many := slices.Repeat([]string{""}, 4096)
	wantSplit(t, "TRN1"+behind, slices.Repeat([]string{"abc"}, 4096), 4+8*4096, api.ErrLimit)
	wantSplit(t, logged(many...)+behind, many, 4+5*4096, api.ErrLimit)
	wantSplit(t, "TRN2"+behind, nil, 3, api.ErrForm)
	wantSplit(t, "\x00TRN1"+behind, nil, 0, api.ErrForm)
	wantSplit(t, logged("a")+"\x80\x00"+behind, []string{"a"}, 11, api.ErrForm)
	wantSplit(t, logged("a")+"\xA1\x9C\x01"+behind, []string{"a"}, 12, api.ErrLimit)
	wantSplit(t, logged("a")+"\x00\x00\x00\x00\x01"+behind, []string{"a"}, 14, api.ErrSum)
}

// TestSplitFirst: of several faults the one that stands most to the left.
func TestSplitFirst(t *testing.T) {
	wantSplit(t, "XRN2\x80\x00", nil, 0, api.ErrForm)
	wantSplit(t, "TRN1\x01a\x43\xBE\xB7\xE9\x80\x00", nil, 9, api.ErrSum)
	wantSplit(t, "TRN1\x01b\x43\xBE", nil, 6, api.ErrSum)
	wantSplit(t, "TRN1\x80\x00\xA1\x9C\x01", nil, 5, api.ErrForm)
	wantSplit(t, "TRN1\xA1\x9C\x01\x80\x00", nil, 6, api.ErrLimit)
	wantSplit(t, logged("a", "b")+"\x00\x01\x80\x00\x00", []string{"a", "b"}, 17, api.ErrSum)
	wantSplit(t, "TRN1\x02b", nil, 6, api.ErrShort)
}

// TestSplitOneLog: what is a log is the one that Join tells of its bodies; what is wrong at a place is cut off ahead of it.
func TestSplitOneLog(t *testing.T) {
	const edges = "\x00\x01\x7F\x80\x43\xBE\xB7\xE8"
	rows := []string{"TRN1", "TRN1\x00", "TRN1\x00\x00\x00\x00\x00", "TRN1\x01a", "TRN1\x01a\x43\xBE"}
	for from, size := 0, 1; size <= 4; size++ {
		till := len(rows)
		for _, s := range rows[from:till] {
			for i := range len(edges) {
				rows = append(rows, s+edges[i:i+1])
			}
		}
		from = till
	}
	for _, b := range rows {
		wantSlow(t, b)
		l, at, e := Split([]byte(b))
		if e == api.OK {
			wantJoin(t, asTexts(l), b)
			continue
		}
		_, k, f := Split([]byte(b[:at]))
		if k != at || f != api.OK && f != api.ErrShort {
			t.Errorf("%q: %d, %v, but ahead of it: %d, %v", b, at, e, k, f)
		}
	}
}

func TestSplitOwn(t *testing.T) {
	b := []byte(logged(few()...) + "\x80\x00")
	was := string(b)
	l, _, _ := Split(b)
	if string(b) != was {
		t.Errorf("what was handed in is now %q", b)
	}
	for i := range b {
		b[i] = '#'
	}
	if !slices.Equal(asTexts(l), few()) {
		t.Errorf("the bodies hang on what was handed in: %q", l)
	}
}

// TestSplitApart: who writes into a body, or behind it, changes nothing else.
func TestSplitApart(t *testing.T) {
	b := []byte(logged(few()...))
	was := string(b)
	l, _, _ := Split(b)
	for i := range l {
		for k := range l[i] {
			l[i][k] = '#'
		}
		room := l[i][:cap(l[i])]
		for k := range room {
			room[k] = '#'
		}
		if string(b) != was {
			t.Fatalf("body %d hangs together with what was handed in", i)
		}
		if !slices.Equal(asTexts(l[i+1:]), few()[i+1:]) {
			t.Fatalf("body %d hangs together with one behind it", i)
		}
	}
	again, _, _ := Split(b)
	if !slices.Equal(asTexts(again), few()) {
		t.Errorf("two answers hang together: %q", again)
	}
}

// TestFramesOneByOne: frames may be left at any of them, and taken anew.
func TestFramesOneByOne(t *testing.T) {
	b := []byte(logged(few()...))[4:]
	all := frames(b)
	for most := range len(few()) + 1 {
		var got []string
		for f := range all {
			if len(got) == most {
				break
			}
			got = append(got, string(f.body))
		}
		if !slices.Equal(got, few()[:most]) {
			t.Errorf("the first %d: %q", most, got)
		}
	}
}

// TestFramesWrong: behind a frame that is wrong none is taken, though one might be read there.
func TestFramesWrong(t *testing.T) {
	for _, wrong := range []string{"\x80\x00", "\xA1\x9C\x01", "\x01a\x43\x00"} {
		count := 0
		for range frames([]byte(framed("a") + wrong + framed("b"))) {
			count++
		}
		if count != 2 {
			t.Errorf("%q: %d frames", wrong, count)
		}
	}
}

// D2.

func TestJoinExamples(t *testing.T) {
	if b, e := Join(nil); string(b) != "TRN1" || e != api.OK {
		t.Errorf("Join(nil): %q, %v", b, e)
	}
	wantJoin(t, []string{}, "TRN1")
	wantJoin(t, []string{""}, "TRN1\x00\x00\x00\x00\x00")
	wantJoin(t, []string{"123456789"}, "TRN1\x09123456789\x26\x39\xF4\xCB")
	wantJoin(t, []string{"a", "", "a"}, "TRN1\x01a\x43\xBE\xB7\xE8\x00\x00\x00\x00\x00\x01a\x43\xBE\xB7\xE8")
	if b, e := Join([][]byte{nil, []byte("a")}); string(b) != logged("", "a") || e != api.OK {
		t.Errorf("Join of a nil body and another: %q, %v", b, e)
	}
}

func TestJoinBodies(t *testing.T) {
	for till := range len(some()) + 1 {
		wantJoin(t, some()[:till], logged(some()[:till]...))
	}
}

func TestJoinLimits(t *testing.T) {
	for _, count := range []int{4095, 4096} {
		l := slices.Repeat([]string{""}, count)
		wantJoin(t, l, logged(l...))
	}
	wantTooMuch(t, slices.Repeat([]string{""}, 4097))
	wantTooMuch(t, slices.Repeat([]string{""}, 100000))
	for _, size := range []int{19999, 20000} {
		l := []string{"a", stirred(size), ""}
		wantJoin(t, l, logged(l...))
	}
	for _, size := range []int{20001, 30000, 2000000} {
		wantTooMuch(t, []string{stirred(size)})
		wantTooMuch(t, []string{"a", stirred(size), ""})
	}
	wantTooMuch(t, slices.Repeat([]string{stirred(20001)}, 4097))
	for _, bodies := range []func(int) []string{full, fullOfMany} {
		wantJoin(t, bodies(-1), logged(bodies(-1)...))
		wantJoin(t, bodies(0), logged(bodies(0)...))
		wantTooMuch(t, bodies(1))
		wantTooMuch(t, bodies(2))
	}
	wantTooMuch(t, append(full(0), ""))
	wantTooMuch(t, append(full(-4), ""))
	wantJoin(t, append(full(-5), ""), logged(append(full(-5), "")...))
	wantTooMuch(t, slices.Repeat([]string{stirred(20000)}, 4096))
}

// TestJoinSplit: one is the other backwards.
func TestJoinSplit(t *testing.T) {
	for _, l := range [][]string{nil, some(), few(), full(0), fullOfMany(0)} {
		b, e := Join(asBytes(l))
		if e != api.OK {
			t.Fatalf("Join of %d bodies: %v", len(l), e)
		}
		wantSplit(t, string(b), l, len(b), api.OK)
	}
}

func TestJoinOwn(t *testing.T) {
	room := []byte("ab..............")
	bodies := [][]byte{room[:1], room[1:2], nil, room[:2]}
	b, _ := Join(bodies)
	if string(room) != "ab.............." || bodies[2] != nil || !slices.Equal(asTexts(bodies), []string{"a", "b", "", "ab"}) {
		t.Errorf("what was handed in is now %q, %q", bodies, room)
	}
	copy(room, "################")
	bodies[0] = nil
	if string(b) != logged("a", "b", "", "ab") {
		t.Errorf("the log hangs on what was handed in: %q", b)
	}
	for i := range b {
		b[i] = '+'
	}
	if string(room) != "################" {
		t.Errorf("what was handed in hangs on the log: %q", room)
	}
	first, _ := Join(nil)
	first[0] = '#'
	if again, _ := Join(nil); string(again) != "TRN1" {
		t.Errorf("two answers hang together: %q", again)
	}
}

func TestAtPlaces(t *testing.T) {
	l := [][]byte{nil, []byte("a"), make([]byte, 127), make([]byte, 128), make([]byte, 16383), make([]byte, 16384), {}, []byte("b")}
	want := []int{5, 10, 16, 149, 283, 16673, 33062, 33067}
	for i := range l {
		if at := At(l, i); at != want[i] {
			t.Errorf("At %d: %d, want %d", i, at, want[i])
		}
	}
}

// TestAtIsInLog: at its place in the log stands the body, with its number ahead.
func TestAtIsInLog(t *testing.T) {
	for _, l := range [][]string{some(), few(), full(0)} {
		b := logged(l...)
		bodies := asBytes(l)
		for i, body := range l {
			at := At(bodies, i)
			if !bytes.HasSuffix([]byte(b[:at]), binary.AppendUvarint(nil, uint64(len(body)))) || b[at:at+len(body)] != body {
				t.Errorf("At %d: %d", i, at)
			}
			if end := At(append(slices.Clone(bodies[:i+1]), nil), i+1) - 1; end != len(logged(l[:i+1]...)) {
				t.Errorf("the frame of body %d ends at %d", i, end)
			}
		}
	}
}

func TestAtNoSuch(t *testing.T) {
	for _, i := range []int{math.MinInt, -2, -1, 0, 1, math.MaxInt} {
		if at := At(nil, i); at != -1 {
			t.Errorf("At(nil, %d): %d", i, at)
		}
		if at := At([][]byte{}, i); at != -1 {
			t.Errorf("At of no bodies, %d: %d", i, at)
		}
	}
	l := asBytes(few())
	for _, i := range []int{math.MinInt, -len(l), -1, len(l), len(l) + 1, math.MaxInt} {
		if at := At(l, i); at != -1 {
			t.Errorf("At %d of %d: %d", i, len(l), at)
		}
	}
	if at, want := At(l, len(l)-1), len(logged(few()...))-6; at != want {
		t.Errorf("At of the last: %d, want %d", at, want)
	}
}

// TestAtTooMuch: At knows no limits.
func TestAtTooMuch(t *testing.T) {
	many := make([][]byte, 10000)
	for _, i := range []int{4095, 4096, 4097, 9999} {
		if at := At(many, i); at != 5+5*i {
			t.Errorf("At %d of many: %d", i, at)
		}
	}
	great := make([]byte, 2097152)
	long := [][]byte{make([]byte, 20001), great, great, []byte("z")}
	for i, want := range []int{7, 20016, 2117176, 4214333} {
		if at := At(long, i); at != want {
			t.Errorf("At %d of long ones: %d, want %d", i, at, want)
		}
	}
}

func TestAtOwn(t *testing.T) {
	room := []byte("ab......")
	bodies := [][]byte{room[:1], nil, room[:2]}
	At(bodies, 2)
	if string(room) != "ab......" || bodies[1] != nil || !slices.Equal(asTexts(bodies), []string{"a", "", "ab"}) {
		t.Errorf("what was handed in is now %q, %q", bodies, room)
	}
}
