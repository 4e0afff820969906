package percent

import "strings"

// members are the bytes of a set; which they are a function tells.
type members struct {
	has func(c byte) bool
}

// find is what is in the set of a number; nothing, if the number is no set's.
func find(set int) members {
	if set < C0 || set > Path {
		set = 0
	}
	return sets()[set]
}

// sets are the sets by their numbers; at 0 stands that of no bytes.
func sets() [Path + 1]members {
	none := members{func(byte) bool { return false }}
	c0 := members{func(c byte) bool { return c < 0x20 || c > 0x7E }}
	query := c0.and(" \"#<>")
	return [...]members{
		0:        none,
		C0:       c0,
		Fragment: c0.and(" \"<>`"),
		Query:    query,
		Special:  query.and("'"),
		Path:     query.and("?^`{}"),
	}
}

// and is what is in m, and the bytes of more beside it.
func (m members) and(more string) members {
	return members{func(c byte) bool { return m.has(c) || strings.IndexByte(more, c) >= 0 }}
}
