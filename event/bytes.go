package event

import (
	"transept/api"
	"transept/number"
)

// wide tells whether a number below this one takes two bytes.
func wide(below int) bool {
	return below > 256
}

// writer gathers the bytes of an event that is right.
type writer struct {
	b []byte
}

func (w *writer) number(n uint64) {
	w.b = number.Put(w.b, n)
}

func (w *writer) text(s *string) {
	w.b = number.PutText(w.b, *s)
}

func (w *writer) small(n *int, below int) {
	if wide(below) {
		w.b = append(w.b, byte(*n>>8))
	}
	w.b = append(w.b, byte(*n))
}

// reader goes through the bytes of an event, and stays at the first fault: all that is read behind it is zero.
type reader struct {
	b  []byte
	at int // how far b is read, or the place of the fault
	e  api.Errno
}

func (r *reader) kind() int {
	return r.take(api.Page, api.Done)
}

func (r *reader) number() uint64 {
	if r.e != api.OK {
		return 0
	}
	n, size, e := number.Get(r.b[r.at:])
	r.at += size
	r.e = e
	return n
}

// id looks at the first byte alone: 0 is the only number that begins with the byte 0, and that is all of it.
func (r *reader) id(fetch bool) uint64 {
	if fetch {
		r.check(1, 255)
	} else {
		r.check(0, 0)
	}
	return r.number()
}

func (r *reader) text(s *string) {
	if r.e != api.OK {
		return
	}
	t, size, e := number.Text(r.b[r.at:], api.MaxText)
	r.at += size
	r.e = e
	*s = t
}

func (r *reader) small(n *int, below int) {
	last := below - 1
	high := 0
	if wide(below) {
		high = r.take(0, last>>8) << 8
	}
	*n = high + r.take(0, min(255, last-high))
}

// end is a fault, if there are bytes left.
func (r *reader) end() {
	if r.e == api.OK && r.at < len(r.b) {
		r.e = api.ErrEnd
	}
}

// take is the next byte, if it is right; else 0.
func (r *reader) take(least, most int) int {
	if !r.check(least, most) {
		return 0
	}
	c := r.b[r.at]
	r.at++
	return int(c)
}

// check tells whether nothing was wrong, and the next byte is neither below least nor above most.
func (r *reader) check(least, most int) bool {
	if r.e != api.OK {
		return false
	}
	if r.at == len(r.b) {
		r.e = api.ErrShort
		return false
	}
	if c := int(r.b[r.at]); c < least || c > most {
		r.e = api.ErrForm
		return false
	}
	return true
}
