package rank_test

import (
	"bytes"
	"math"
	"slices"
	"testing"

	"incipit/api"
	"incipit/rank"
	"incipit/varint"
)

// model is a row as the chapter's words tell it: bit by bit.
type model []bool

// count: how many are ones, or zeros.
func (m model) count(one bool) int {
	n := 0
	for _, bit := range m {
		if bit == one {
			n++
		}
	}
	return n
}

// places: where ones are, or zeros.
func (m model) places(one bool) []int {
	var l []int
	for i, bit := range m {
		if bit == one {
			l = append(l, i)
		}
	}
	return l
}

// directory: each number counted by itself.
func (m model) directory() (blocks, words []int) {
	for from := 0; from < len(m); from += 512 {
		blocks = append(blocks, m[:from].count(true))
	}
	for from := 0; from < len(m); from += 64 {
		words = append(words, m[from/512*512:from].count(true))
	}
	return blocks, words
}

// bits: eight a byte, the lowest first.
func (m model) bits() []byte {
	var b []byte
	for eight := range slices.Chunk(m, 8) {
		sum := 0
		for i, bit := range eight {
			if bit {
				sum += []int{1, 2, 4, 8, 16, 32, 64, 128}[i]
			}
		}
		b = append(b, byte(sum))
	}
	return b
}

func (m model) bytes() []byte { return append(varint.Put(len(m)), m.bits()...) }

// with: the bit at a place is turned.
func (m model) with(i int) model {
	m = slices.Clone(m)
	m[i] = !m[i]
	return m
}

// parsed: the row of these bytes, and what is left of them.
func parsed(b []byte) (model, []byte, api.Errno) {
	n, rest, e := varint.Get(b)
	switch {
	case e != api.OK:
		return nil, nil, e
	case n > 65536:
		return nil, nil, api.ErrForm
	}
	m := model{}
	for i := 0; i < n || i%8 != 0; i++ {
		if i/8 == len(rest) {
			return nil, nil, api.ErrEnd
		}
		one := rest[i/8]>>(i%8)%2 == 1
		if i < n {
			m = append(m, one)
		} else if one {
			return nil, nil, api.ErrForm
		}
	}
	return m, rest[len(m.bits()):], api.OK
}

// lengths of rows, at the edges of bytes, of words and of blocks.
var lengths = []int{0, 1, 2, 7, 8, 9, 15, 16, 17, 63, 64, 65, 127, 128, 129, 448, 449, 511, 512, 513, 575, 576, 577, 1000, 1023, 1024, 1025, 1600}

// far is far off whatever a row may have.
var far = []int{math.MinInt, math.MinInt + 1, -1 << 32, -65537, -65536, -512, -64, -8, -2, 1 << 17, 1 << 32, 1<<32 + 1, math.MaxInt - 1, math.MaxInt}

// next has no chance in it: the same numbers each time.
func next(seed *uint32, below int) int {
	*seed = *seed*1664525 + 1013904223
	return int(*seed>>8) % below
}

// shapes: which bits are ones. Some have blocks and words without any.
func shapes(n int) []func(i int) bool {
	var seed uint32 = uint32(n) + 1
	in := func(parts int) func(int) bool { return func(int) bool { return next(&seed, parts) == 0 } }
	return []func(int) bool{
		func(int) bool { return false },
		func(int) bool { return true },
		func(i int) bool { return i%2 == 0 },
		func(i int) bool { return i == 0 },
		func(i int) bool { return i == n-1 },
		func(i int) bool { return i != 0 },
		func(i int) bool { return i != n-1 },
		func(i int) bool { return i%64 == 0 },
		func(i int) bool { return i%64 == 63 },
		func(i int) bool { return i%512 == 511 },
		func(i int) bool { return i%512 != 0 },
		func(i int) bool { return i/64%2 == 1 },
		func(i int) bool { return i/512%2 == 1 },
		func(i int) bool { return i/512%3 == 0 },
		func(i int) bool { return i%512 < 64 },
		func(i int) bool { return i%512 >= 448 },
		func(i int) bool { return i < n/2 },
		in(2), in(3), in(40), in(300),
	}
}

func drawn(n int, shape func(i int) bool) model {
	m := model{}
	for i := range n {
		m = append(m, shape(i))
	}
	return m
}

// eachModel: all shapes of all lengths.
func eachModel(do func(m model)) {
	for _, n := range lengths {
		for _, shape := range shapes(n) {
			do(drawn(n, shape))
		}
	}
}

// eachSmall: all rows of a few bits.
func eachSmall(do func(m model)) {
	for n := range 11 {
		for pattern := range 1 << n {
			do(drawn(n, func(i int) bool { return pattern>>i%2 == 1 }))
		}
	}
}

// made: a row as a model is.
func made(t *testing.T, m model) *rank.Row {
	t.Helper()
	r, e := rank.New(m...)
	if r == nil || e != api.OK {
		t.Fatalf("New of %d bits = %v %d", len(m), r, e)
	}
	return r
}

// agree: whatever is asked of the row, it is as the model.
func agree(t *testing.T, what string, r *rank.Row, m model) {
	t.Helper()
	if r == nil {
		t.Fatalf("%s: no row", what)
	}
	if r.Len() != len(m) || r.Count(true) != m.count(true) || r.Count(false) != m.count(false) {
		t.Fatalf("%s: %d bits, %d ones, %d zeros, want %d, %d, %d", what, r.Len(), r.Count(true), r.Count(false), len(m), m.count(true), m.count(false))
	}
	if got := r.Bytes(); !bytes.Equal(got, m.bytes()) {
		t.Fatalf("%s: Bytes() = %x, want %x", what, got, m.bytes())
	}
	if got := r.Ones(); !slices.Equal(got, m.places(true)) {
		t.Fatalf("%s: Ones() = %v, want %v", what, got, m.places(true))
	}
	blocks, words := r.Directory()
	wantBlocks, wantWords := m.directory()
	if !slices.Equal(blocks, wantBlocks) || !slices.Equal(words, wantWords) {
		t.Fatalf("%s: Directory() = %v %v, want %v %v", what, blocks, words, wantBlocks, wantWords)
	}
	agreeAt(t, what, r, m)
	agreeOff(t, what, r, m)
}

// agreeAt: bits, ranks and places, counted bit by bit.
func agreeAt(t *testing.T, what string, r *rank.Row, m model) {
	t.Helper()
	met := map[bool]int{}
	for i := range len(m) + 1 {
		for _, one := range []bool{true, false} {
			if n, e := r.Rank(one, i); n != met[one] || e != api.OK {
				t.Fatalf("%s of %d: Rank(%t, %d) = %d %d, want %d", what, len(m), one, i, n, e, met[one])
			}
		}
		if i == len(m) {
			return
		}
		if one, e := r.At(i); one != m[i] || e != api.OK {
			t.Fatalf("%s of %d: At(%d) = %t %d, want %t", what, len(m), i, one, e, m[i])
		}
		if place, e := r.Select(m[i], met[m[i]]); place != i || e != api.OK {
			t.Fatalf("%s of %d: Select(%t, %d) = %d %d, want %d", what, len(m), m[i], met[m[i]], place, e, i)
		}
		met[m[i]]++
	}
}

// agreeOff: what isn't there.
func agreeOff(t *testing.T, what string, r *rank.Row, m model) {
	t.Helper()
	n := len(m)
	for _, i := range append([]int{-1, n, n + 1, n + 7, n + 63, n + 64, n + 512}, far...) {
		if one, e := r.At(i); one || e != api.ErrRange {
			t.Fatalf("%s of %d: At(%d) = %t %d", what, n, i, one, e)
		}
		for _, one := range []bool{true, false} {
			if n, e := r.Rank(one, i); i != len(m) && (n != 0 || e != api.ErrRange) {
				t.Fatalf("%s of %d: Rank(%t, %d) = %d %d", what, len(m), one, i, n, e)
			}
		}
	}
	for _, one := range []bool{true, false} {
		n := m.count(one)
		for _, k := range append([]int{-1, n, n + 1, n + 64, max(n, len(m)-1), max(n, len(m))}, far...) {
			if place, e := r.Select(one, k); place != 0 || e != api.ErrNone {
				t.Fatalf("%s of %d: Select(%t, %d) = %d %d", what, len(m), one, k, place, e)
			}
		}
	}
}

// wantNone: there is no row, and this error.
func wantNone(t *testing.T, what string, r *rank.Row, e, want api.Errno) {
	t.Helper()
	if r != nil || e != want {
		t.Errorf("%s = %v %d, want no row and %d", what, r, e, want)
	}
}

// spoil: all of the list is this, what it has room for too.
func spoil[T any](l []T, with T) {
	l = l[:cap(l)]
	for i := range l {
		l[i] = with
	}
}
