// Package number is layer 1, numbers and texts as bytes: see shared/doc/01-number.md.
package number

import (
	"slices"

	"transept/api"
)

const (
	low   = 0x7f // the bits of a byte that are the number's
	more  = 0x80 // the bit that says that another byte follows
	tenth = 9    // the place of the tenth byte, for which one bit of 64 is left
)

// Put is b, and the bytes of n behind (A1).
func Put(b []byte, n uint64) []byte {
	return add(slices.Clone(b), n)
}

// Get is the number at the beginning of b, and its size; or 0, and the place of a fault (A1).
func Get(b []byte) (n uint64, size int, e api.Errno) {
	r := reader{rest: b}
	return read(r.next)
}

// PutText is b, and the bytes of the text s behind (A2).
func PutText(b []byte, s string) []byte {
	return append(add(slices.Clone(b), uint64(len(s))), s...)
}

// Text is the text at the beginning of b, and its size; or none, and the place of a fault (A2).
func Text(b []byte, most int) (s string, size int, e api.Errno) {
	n, head, e := Get(b)
	if e != api.OK {
		return "", head, e
	}
	if above(n, most) {
		return "", head - 1, api.ErrLimit
	}
	// The lengths are held against each other unsigned: n may be more than an int holds.
	if n > uint64(len(b)-head) {
		return "", len(b), api.ErrShort
	}
	size = head + int(n)
	return string(b[head:size]), size, api.OK
}

// add writes into b's spare room: b must be a copy that no caller holds.
func add(b []byte, n uint64) []byte {
	for ; n > low; n >>= 7 {
		b = append(b, byte(n)|more)
	}
	return append(b, byte(n))
}

// reader hands out bytes, one behind the other.
type reader struct {
	rest []byte
}

// next is false behind the last byte.
func (r *reader) next() (byte, bool) {
	if len(r.rest) == 0 {
		return 0, false
	}
	c := r.rest[0]
	r.rest = r.rest[1:]
	return c, true
}

// read takes the bytes of one number, and none behind them. It ends at the tenth byte at the latest:
// one that passes there has no bit more.
func read(next func() (byte, bool)) (n uint64, size int, e api.Errno) {
	for at := 0; ; at++ {
		c, ok := next()
		if !ok {
			return 0, at, api.ErrShort
		}
		if wrong(c, at) {
			return 0, at, api.ErrForm
		}
		n |= uint64(c&low) << (7 * at)
		if c&more == 0 {
			return n, at + 1, api.OK
		}
	}
}

// wrong tells whether no number has the byte c at this place, behind bytes that are right.
func wrong(c byte, at int) bool {
	needless := c == 0 && at > 0
	tooGreat := c > 1 && at == tenth
	return needless || tooGreat
}

// above holds of each n, if most is below 0.
func above(n uint64, most int) bool {
	return most < 0 || n > uint64(most)
}
