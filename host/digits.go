package host

// tooGreat is more than any address, and what all numbers from there on count as: so none is too long to be told.
const tooGreat = 1 << 32

// value is what digits to a base, of sixteen at most, tell (0, if there are none), and whether all bytes are such digits.
func value(digits string, base uint64) (uint64, bool) {
	n := uint64(0)
	for at := range len(digits) {
		d := digit(digits[at])
		if d >= base {
			return 0, false
		}
		n = min(n*base+d, tooGreat)
	}
	return n, true
}

// digit is what a digit to base sixteen tells; 16, if c is none.
func digit(c byte) uint64 {
	switch {
	case c >= '0' && c <= '9':
		return uint64(c - '0')
	case c >= 'A' && c <= 'F':
		return uint64(c-'A') + 10
	case c >= 'a' && c <= 'f':
		return uint64(c-'a') + 10
	}
	return 16
}
