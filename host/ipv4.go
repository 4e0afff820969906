package host

import (
	"strconv"
	"strings"

	"transept/api"
)

// IPv4 is a text's address, and whether it ends in a number; if it does and is no address, ErrURL stands beside true (G1).
func IPv4(s string) (uint32, bool, api.Errno) {
	parts := split(s)
	if !endsInNumber(parts) {
		return 0, false, api.OK
	}
	address, ok := joinParts(parts)
	if !ok {
		return 0, true, api.ErrURL
	}
	return address, true, api.OK
}

// split is the parts of a text, one at least.
func split(s string) []string {
	parts := strings.Split(s, ".")
	last := len(parts) - 1
	if last > 0 && parts[last] == "" {
		return parts[:last]
	}
	return parts
}

// endsInNumber tells whether the last part is digits to base ten, or a number.
func endsInNumber(parts []string) bool {
	last := parts[len(parts)-1]
	if last == "" {
		return false
	}
	// Digits alone are enough, as of 09, that is no number.
	_, isDigits := value(last, 10)
	_, isNumber := number(last)
	return isDigits || isNumber
}

// number is what a part tells, and whether it is a number.
func number(part string) (uint64, bool) {
	switch {
	case part == "":
		return 0, false
	case strings.HasPrefix(part, "0x"), strings.HasPrefix(part, "0X"):
		return value(part[2:], 16)
	case part[0] == '0':
		// Of a nought alone no digits are left, which tell 0 too.
		return value(part[1:], 8)
	}
	return value(part, 10)
}

// joinParts is the address that parts tell, and whether they tell one.
func joinParts(parts []string) (uint32, bool) {
	if len(parts) > 4 {
		return 0, false
	}
	address := uint64(0)
	last := len(parts) - 1
	for i, part := range parts {
		size := 1
		if i == last {
			size = 4 - last
		}
		n, ok := number(part)
		if !ok || n>>(8*size) > 0 {
			return 0, false
		}
		address = address<<(8*size) | n
	}
	return uint32(address), true
}

// dotted is how an IPv4 is written.
func dotted(address uint32) string {
	bytes := [4]byte{byte(address >> 24), byte(address >> 16), byte(address >> 8), byte(address)}
	out := []byte{}
	for i, c := range bytes {
		if i > 0 {
			out = append(out, '.')
		}
		out = strconv.AppendUint(out, uint64(c), 10)
	}
	return string(out)
}
