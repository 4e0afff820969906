package crc

import (
	"hash/crc32"
	"math"
	"strings"
	"testing"
)

// known are sums that were told elsewhere.
func known() map[string]uint32 {
	return map[string]uint32{
		"":                         0,
		"123456789":                0xCBF43926,
		"a":                        0xE8B7BE43,
		"abc":                      0x352441C2,
		"\x00":                     0xD202EF8D,
		"\xff":                     0xFF000000,
		"\x00\x00\x00\x00":         0x2144DF1C,
		"\xff\xff\xff\xff":         0xFFFFFFFF,
		strings.Repeat("\x00", 32): 0x190A55AD,
		"The quick brown fox jumps over the lazy dog": 0x414FA339,
	}
}

// mixed is a row of bytes in which each byte stands at several places.
func mixed(size int) []byte {
	b := make([]byte, size)
	x := uint32(1)
	for i := range b {
		x = x*1664525 + 1013904223
		b[i] = byte(x >> 24)
	}
	return b
}

// slow is More as the chapter's words tell it, bit by bit, with the polynomial the way it is written there.
func slow(sum uint32, b []byte) uint32 {
	rest := turned(^sum)
	for _, c := range b {
		for bit := range 8 {
			top := rest>>31 ^ uint32(c>>bit&1)
			rest <<= 1
			if top == 1 {
				rest ^= 0x04C11DB7
			}
		}
	}
	return ^turned(rest)
}

// turned has the bits of n the other way round.
func turned(n uint32) (m uint32) {
	for range 32 {
		m = m<<1 | n&1
		n >>= 1
	}
	return m
}

// sums are those at whose bits something may go wrong.
func sums() []uint32 {
	l := []uint32{0, math.MaxUint32, 0xCBF43926, 0x04C11DB7, 0xEDB88320}
	for bit := range 32 {
		l = append(l, 1<<bit, ^uint32(1<<bit))
	}
	return l
}

// B1.

func TestSumKnown(t *testing.T) {
	for s, want := range known() {
		if got := Sum([]byte(s)); got != want {
			t.Errorf("Sum(%q): %08X, want %08X", s, got, want)
		}
	}
}

func TestSumOfNothing(t *testing.T) {
	if got := Sum(nil); got != 0 {
		t.Errorf("Sum(nil): %08X", got)
	}
	if got := Sum([]byte{}); got != 0 {
		t.Errorf("Sum of no bytes: %08X", got)
	}
}

func TestSumIsIEEE(t *testing.T) {
	b := mixed(5000)
	for size := range 600 {
		if got, want := Sum(b[:size]), crc32.ChecksumIEEE(b[:size]); got != want {
			t.Fatalf("Sum of %d bytes: %08X, want %08X", size, got, want)
		}
	}
	if got, want := Sum(b), crc32.ChecksumIEEE(b); got != want {
		t.Errorf("Sum of %d bytes: %08X, want %08X", len(b), got, want)
	}
}

// TestSumOfTwo: all rows of one and of two bytes.
func TestSumOfTwo(t *testing.T) {
	for c := range 256 {
		one := []byte{byte(c)}
		if got, want := Sum(one), slow(0, one); got != want {
			t.Fatalf("Sum(%x): %08X, want %08X", one, got, want)
		}
		for d := range 256 {
			two := []byte{byte(c), byte(d)}
			if got, want := Sum(two), slow(0, two); got != want {
				t.Fatalf("Sum(%x): %08X, want %08X", two, got, want)
			}
		}
	}
}

func TestMoreOfZeroIsSum(t *testing.T) {
	for s, want := range known() {
		if got := More(0, []byte(s)); got != want {
			t.Errorf("More(0, %q): %08X, want %08X", s, got, want)
		}
	}
	if got := More(0, nil); got != 0 {
		t.Errorf("More(0, nil): %08X", got)
	}
}

func TestMoreOfNothing(t *testing.T) {
	for _, sum := range sums() {
		if got := More(sum, nil); got != sum {
			t.Errorf("More(%08X, nil): %08X", sum, got)
		}
		if got := More(sum, []byte{}); got != sum {
			t.Errorf("More(%08X, no bytes): %08X", sum, got)
		}
	}
}

// TestMoreOfAnySum: a sum may be any number, and each byte behind it counts.
func TestMoreOfAnySum(t *testing.T) {
	for _, sum := range sums() {
		for c := range 256 {
			b := []byte{byte(c)}
			if got, want := More(sum, b), slow(sum, b); got != want {
				t.Fatalf("More(%08X, %x): %08X, want %08X", sum, b, got, want)
			}
		}
		b := mixed(100)
		if got, want := More(sum, b), crc32.Update(sum, crc32.IEEETable, b); got != want {
			t.Errorf("More(%08X, %d bytes): %08X, want %08X", sum, len(b), got, want)
		}
	}
}

// TestTwoPieces: a cut anywhere, the ends too, changes nothing.
func TestTwoPieces(t *testing.T) {
	for _, b := range [][]byte{[]byte("123456789"), mixed(257), make([]byte, 40)} {
		for cut := range len(b) + 1 {
			if got, want := More(Sum(b[:cut]), b[cut:]), Sum(b); got != want {
				t.Errorf("%d bytes, cut at %d: %08X, want %08X", len(b), cut, got, want)
			}
		}
	}
}

func TestThreePieces(t *testing.T) {
	b := mixed(40)
	for second := range len(b) + 1 {
		for first := range second + 1 {
			got := More(More(Sum(b[:first]), b[first:second]), b[second:])
			if want := Sum(b); got != want {
				t.Errorf("cut at %d and %d: %08X, want %08X", first, second, got, want)
			}
		}
	}
}

func TestByteByByte(t *testing.T) {
	b := mixed(1000)
	sum := uint32(0)
	for at := range b {
		sum = More(sum, b[at:at+1])
		if want := Sum(b[:at+1]); sum != want {
			t.Fatalf("up to %d: %08X, want %08X", at, sum, want)
		}
	}
}

// TestEachBitCounts: bytes that differ in one bit have other sums.
func TestEachBitCounts(t *testing.T) {
	b := mixed(64)
	want := Sum(b)
	for bit := range 8 * len(b) {
		b[bit/8] ^= 1 << (bit % 8)
		if Sum(b) == want {
			t.Errorf("bit %d does not count", bit)
		}
		b[bit/8] ^= 1 << (bit % 8)
	}
}

// TestReadOnly: what is handed in stays as it was, its spare room too, and nothing of it is kept.
func TestReadOnly(t *testing.T) {
	room := []byte("123456789.......")
	b := room[:9]
	for range 2 {
		if got := Sum(b); got != 0xCBF43926 {
			t.Errorf("Sum: %08X", got)
		}
		if got := More(Sum(b[:4]), b[4:]); got != 0xCBF43926 {
			t.Errorf("More: %08X", got)
		}
		if string(room) != "123456789......." {
			t.Fatalf("what was handed in is now %q", room)
		}
	}
	copy(room, "abc")
	if got := Sum(room[:3]); got != 0x352441C2 {
		t.Errorf("Sum of what was written over: %08X", got)
	}
}
