package host

import (
	"strconv"
	"strings"

	"transept/api"
)

// IPv6 is the address whose text, without brackets, s is (G2).
func IPv6(s string) ([8]uint16, api.Errno) {
	// A second :: stays in tail, where it makes a piece that is empty.
	head, tail, gap := strings.Cut(s, "::")
	front, frontOK := pieces(head, !gap)
	back, backOK := pieces(tail, gap)
	if !frontOK || !backOK {
		return [8]uint16{}, api.ErrURL
	}
	missing := 8 - len(front) - len(back)
	if missing < 0 || gap == (missing == 0) {
		return [8]uint16{}, api.ErrURL
	}
	address := [8]uint16{}
	copy(address[:], front)
	copy(address[8-len(back):], back)
	return address, api.OK
}

// pieces are those of a text, none of an empty one, and whether all are right; at the end of an address four numbers may stand for two.
func pieces(s string, atEnd bool) ([]uint16, bool) {
	if s == "" {
		return nil, true
	}
	out := []uint16{}
	texts := strings.Split(s, ":")
	for i, text := range texts {
		if atEnd && i == len(texts)-1 && strings.Contains(text, ".") {
			four, ok := fourNumbers(text)
			return append(out, four[0], four[1]), ok
		}
		n, ok := piece(text)
		if !ok {
			return nil, false
		}
		out = append(out, n)
	}
	return out, true
}

// piece is what one to four digits to base sixteen tell, and whether a text is that.
func piece(text string) (uint16, bool) {
	if text == "" || len(text) > 4 {
		return 0, false
	}
	n, ok := value(text, 16)
	return uint16(n), ok
}

// fourNumbers is the two pieces that four numbers with dots between tell, and whether a text is that.
func fourNumbers(text string) ([2]uint16, bool) {
	numbers := strings.Split(text, ".")
	if len(numbers) != 4 {
		return [2]uint16{}, false
	}
	two := [2]uint16{}
	for i, digits := range numbers {
		n, ok := value(digits, 10)
		noughtAhead := len(digits) > 1 && digits[0] == '0'
		if !ok || digits == "" || noughtAhead || n > 255 {
			return [2]uint16{}, false
		}
		two[i/2] = two[i/2]<<8 | uint16(n)
	}
	return two, true
}

// brackets is how an IPv6 is written.
func brackets(address [8]uint16) string {
	out := []byte{'['}
	join := func(pieces []uint16) {
		for i, n := range pieces {
			if i > 0 {
				out = append(out, ':')
			}
			out = strconv.AppendUint(out, uint64(n), 16)
		}
	}
	from, to := longestRow(address)
	join(address[:from])
	if from < to {
		out = append(out, ':', ':')
	}
	join(address[to:])
	return string(append(out, ']'))
}

// longestRow is where the first of the longest rows of pieces 0 begins and ends; both are 8, if none has two.
func longestRow(address [8]uint16) (int, int) {
	from, to := len(address), len(address)
	most := 1
	start := 0
	for i, n := range address {
		if n != 0 {
			start = i + 1
		} else if size := i + 1 - start; size > most {
			from, to, most = start, i+1, size
		}
	}
	return from, to
}
