package varint

import (
	"bytes"
	"math"

	"incipit/api"
)

// rest is what of the bytes handed in wasn't read yet. It shares their
// memory: what is answered of it has to be copied.
type rest struct{ left []byte }

// take: the next n bytes, which aren't left any more; false, if there aren't so many.
func (r *rest) take(n int) ([]byte, bool) {
	if n > len(r.left) {
		return nil, false
	}
	taken := r.left[:n]
	r.left = r.left[n:]
	return taken, true
}

// apart: a copy of what is left.
func (r *rest) apart() []byte { return bytes.Clone(r.left) }

// reader reads what stands at the beginning of its rest. What it reads
// counts for nothing once it met a fault.
type reader struct {
	rest
	fault api.Errno
}

// over: a reader of b.
func over(b []byte) *reader { return &reader{rest: rest{left: b}} }

// answer: what was read, and a copy of the rest; with a fault the fault alone.
func answer[T any](r *reader, read T) (T, []byte, api.Errno) {
	if r.fault != api.OK {
		var nothing T
		return nothing, nil, r.fault
	}
	return read, r.apart(), api.OK
}

// plain: a number that isn't signed.
func (r *reader) plain() int { return int(r.number(math.MaxInt)) }

// number: a number up to greatest.
func (r *reader) number(greatest uint64) uint64 {
	var n uint64
	fault := api.ErrEnd
reading:
	for i, c := range r.left {
		low, up := uint64(c&^more), step*i
		switch {
		case i == most, i > 0 && c == 0, low > (greatest-n)>>up:
			fault = api.ErrForm
			break reading
		}
		n |= low << up
		if c < more {
			r.take(i + 1)
			return n
		}
	}
	r.fault = fault
	return 0
}

// list: a list of numbers. As many as it counts are made room for only
// if the bytes could hold them.
func (r *reader) list() []int {
	count := r.plain()
	if count > mostList {
		r.fault = api.ErrLong
		return nil
	}
	l := make([]int, 0, min(count, len(r.left)))
	for len(l) < count && r.fault == api.OK {
		l = append(l, r.plain())
	}
	return l
}

// text: a copy of a text.
func (r *reader) text() []byte {
	size := r.plain()
	if r.fault != api.OK {
		return nil
	}
	return bytes.Clone(r.whole(size))
}

// fixed: a number of so many bytes, from 1 to 8.
func (r *reader) fixed(size int) int {
	var n uint64
	for i, c := range r.whole(size) {
		n |= uint64(c) << (8 * i)
	}
	if n > math.MaxInt {
		r.fault = api.ErrForm
	}
	return int(n)
}

// whole: the next n bytes, all of them.
func (r *reader) whole(n int) []byte {
	b, ok := r.take(n)
	if !ok {
		r.fault = api.ErrEnd
	}
	return b
}
