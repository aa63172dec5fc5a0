package bitmap_test

import (
	"math"
	"slices"
	"testing"

	"incipit/api"
	"incipit/bitmap"
)

// model is a set as the chapter's words tell it: of each number, whether it is in it. No set is a model of no numbers.
type model []bool

func modelOf(size int, l ...int) model {
	m := make(model, size)
	m.add(l...)
	return m
}

func (m model) can(no int) bool { return no >= 0 && no < len(m) }

func (m model) has(no int) bool { return m.can(no) && m[no] }

func (m model) put(in bool, l []int) int {
	n := 0
	for _, no := range l {
		if m.can(no) && m[no] != in {
			m[no] = in
			n++
		}
	}
	return n
}

func (m model) add(l ...int) int  { return m.put(true, l) }
func (m model) drop(l ...int) int { return m.put(false, l) }

// all: the numbers that are in it, or those that aren't.
func (m model) all(in bool) []int {
	var l []int
	for no := range m {
		if m[no] == in {
			l = append(l, no)
		}
	}
	return l
}

// lowest: the lowest from a number on that is in it, or that isn't.
func (m model) lowest(in bool, from int) (int, api.Errno) {
	for _, no := range m.all(in) {
		if no >= from {
			return no, api.OK
		}
	}
	return 0, api.ErrNone
}

// runs: each pair of numbers all between which are in it, and neither neighbour.
func (m model) runs() []bitmap.Run {
	var l []bitmap.Run
	for no := range m {
		if !m.has(no) || m.has(no-1) {
			continue
		}
		count := 0
		for m.has(no + count) {
			count++
		}
		l = append(l, bitmap.Run{From: no, Count: count})
	}
	return l
}

func (m model) bytes() []byte {
	var b []byte
	for no := range m {
		if no%8 == 0 {
			b = append(b, 0)
		}
		if m[no] {
			b[no/8] += []byte{1, 2, 4, 8, 16, 32, 64, 128}[no%8]
		}
	}
	return b
}

func (m model) copied() model { return slices.Clone(m) }

// filtered: of its size, the numbers that are so.
func (m model) filtered(so func(no int) bool) model {
	r := make(model, len(m))
	for no := range r {
		r[no] = so(no)
	}
	return r
}

// parsed: the set of these bytes, a byte's bits asked one by one.
func parsed(size int, b []byte) (model, api.Errno) {
	if size < 1 || size > 2048 {
		return nil, api.ErrArg
	}
	if len(b)*8 < size || len(b)*8-size >= 8 {
		return nil, api.ErrForm
	}
	m := make(model, size)
	for no := range len(b) * 8 {
		if b[no/8]>>(no%8)&1 == 0 {
			continue
		}
		if no >= size {
			return nil, api.ErrForm
		}
		m[no] = true
	}
	return m, api.OK
}

// sizes of sets, at the edges of bytes, of words and of all.
var sizes = []int{1, 2, 7, 8, 9, 15, 16, 17, 63, 64, 65, 100, 127, 128, 129, 2047, 2048}

// noSizes: there is no set of them.
var noSizes = []int{math.MinInt, -2048, -1, 0, 2049, 2112, 4096, 1 << 32, math.MaxInt}

// about: numbers at all edges of a set of this size, and beyond.
func about(size int) []int {
	return []int{math.MinInt, -2048, -64, -2, -1, 0, 1, 2, 6, 7, 8, 9, 31, 32, 62, 63, 64, 65, 126, 127, 128, 129, size / 2, size - 2, size - 1, size, size + 1, size + 63, size + 64, 2047, 2048, 1 << 32, math.MaxInt}
}

// dice has no chance in it: the same numbers each time.
type dice uint32

func (d *dice) below(n int) int {
	*d = *d*1664525 + 1013904223
	return int(*d>>8) % n
}

// count: so many numbers from a first one on, so far apart.
func count(first, n, apart int) []int {
	var l []int
	for i := range n {
		l = append(l, first+i*apart)
	}
	return l
}

// models: of one size, empty, full, of one number, and mixed.
func models(size int) []model {
	d := dice(size)
	half, few, runs := modelOf(size), modelOf(size), modelOf(size)
	for no := range size {
		half[no] = d.below(2) == 0
		few[no] = d.below(40) == 0
		runs[no] = no > 0 && runs[no-1] != (d.below(20) == 0)
	}
	return []model{
		modelOf(size),
		modelOf(size, count(0, size, 1)...),
		modelOf(size, 0), modelOf(size, size-1), modelOf(size, 0, size-1), modelOf(size, size/2),
		modelOf(size, count(0, size-1, 1)...), modelOf(size, count(1, size, 1)...),
		modelOf(size, 62, 63, 64, 65), modelOf(size, 63), modelOf(size, 64), modelOf(size, 7, 8), modelOf(size, 61, 62, 63, 65, 66),
		modelOf(size, count(0, size, 2)...), modelOf(size, count(1, size, 2)...), modelOf(size, count(63, size, 64)...), modelOf(size, count(0, size, 64)...),
		half, few, runs,
	}
}

// eachModel: all models of all sizes.
func eachModel(do func(m model)) {
	for _, size := range sizes {
		for _, m := range models(size) {
			do(m)
		}
	}
}

// made: a set as a model is.
func made(t *testing.T, m model) *bitmap.Set {
	t.Helper()
	s, e := bitmap.New(len(m), m.all(true)...)
	if s == nil || e != api.OK {
		t.Fatalf("New(%d, %v) = %v %d", len(m), m.all(true), s, e)
	}
	return s
}

// agree: whatever is asked of the set, it is as the model.
func agree(t *testing.T, what string, s *bitmap.Set, m model) {
	t.Helper()
	if s == nil {
		t.Fatalf("%s: no set", what)
	}
	want := m.all(true)
	if got := s.All(); !slices.Equal(got, want) {
		t.Fatalf("%s of %d: All() = %v, want %v", what, len(m), got, want)
	}
	if s.Size() != len(m) || s.Count() != len(want) {
		t.Fatalf("%s: size %d, count %d, want %d and %d", what, s.Size(), s.Count(), len(m), len(want))
	}
	if got := s.Runs(); !slices.Equal(got, m.runs()) {
		t.Fatalf("%s of %d: Runs() = %v, want %v", what, len(m), got, m.runs())
	}
	if got := s.Bytes(); !slices.Equal(got, m.bytes()) {
		t.Fatalf("%s of %d: Bytes() = %x, want %x", what, len(m), got, m.bytes())
	}
	for _, no := range about(len(m)) {
		if s.Has(no) != m.has(no) {
			t.Fatalf("%s of %d: Has(%d) = %v", what, len(m), no, s.Has(no))
		}
	}
}
