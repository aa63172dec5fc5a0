package packed_test

import (
	"bytes"
	"math"
	"slices"
	"testing"

	"incipit/api"
	"incipit/packed"
)

// model is an array as the chapter's words tell it: a width, and a plain list.
type model struct {
	width int
	l     []int
}

// top is the greatest number of so many bits: one 1 behind the other.
func top(width int) int {
	n := 0
	for range width {
		n = n*2 + 1
	}
	return n
}

// slowWidth: the least width whose greatest number isn't below it.
func slowWidth(greatest int) int {
	for width := 1; width <= 31; width++ {
		if greatest >= 0 && greatest <= top(width) {
			return width
		}
	}
	return 0
}

// fits: may this number be in an array of that width?
func fits(width, n int) bool { return n >= 0 && n <= top(width) }

func (m model) has(i int) bool { return i >= 0 && i < len(m.l) }

func (m model) at(i int) (int, api.Errno) {
	if !m.has(i) {
		return 0, api.ErrRange
	}
	return m.l[i], api.OK
}

func (m *model) set(i, n int) api.Errno {
	if !m.has(i) || !fits(m.width, n) {
		return api.ErrRange
	}
	m.l[i] = n
	return api.OK
}

func (m *model) add(l ...int) api.Errno {
	for _, n := range l {
		if !fits(m.width, n) {
			return api.ErrRange
		}
	}
	if len(m.l)+len(l) > 65536 {
		return api.ErrLong
	}
	m.l = append(m.l, l...)
	return api.OK
}

func (m model) copied() model { return model{m.width, slices.Clone(m.l)} }

// bits: one byte, 0 or 1, for each bit of all numbers.
func (m model) bits() []byte {
	var b []byte
	for _, n := range m.l {
		for range m.width {
			b = append(b, byte(n%2))
			n /= 2
		}
	}
	return b
}

// gathered: eight bits a byte, the lowest first, with bits 0 at the end.
func gathered(bits []byte) []byte {
	var b []byte
	for i, bit := range bits {
		if i%8 == 0 {
			b = append(b, 0)
		}
		b[i/8] += bit * []byte{1, 2, 4, 8, 16, 32, 64, 128}[i%8]
	}
	return b
}

// slowPut: a count's bytes, seven bits in each.
func slowPut(n int) []byte {
	if n < 128 {
		return []byte{byte(n)}
	}
	return append([]byte{byte(n%128 + 128)}, slowPut(n/128)...)
}

func (m model) bytes() []byte {
	return slices.Concat([]byte{byte(m.width)}, slowPut(len(m.l)), gathered(m.bits()))
}

// slowCount: the count at the beginning, and how many bytes it has. Nine bytes
// hold 63 bits, so what a tenth one adds is above 2^63-1.
func slowCount(b []byte) (int, int, api.Errno) {
	n, each := 0, 1
	for i, c := range b {
		if i == 10 || i == 9 && c%128 != 0 || i > 0 && c == 0 {
			return 0, 0, api.ErrForm
		}
		n += int(c%128) * each
		each *= 128
		if c < 128 {
			if n > 65536 {
				return 0, 0, api.ErrForm
			}
			return n, i + 1, api.OK
		}
	}
	return 0, 0, api.ErrEnd
}

// parsed: the array of these bytes, and how many they are, bit by bit.
func parsed(b []byte) (model, int, api.Errno) {
	if len(b) == 0 {
		return model{}, 0, api.ErrEnd
	}
	width := int(b[0])
	if width == 0 || width > 31 {
		return model{}, 0, api.ErrForm
	}
	count, size, e := slowCount(b[1:])
	if e != api.OK {
		return model{}, 0, e
	}
	m := model{width: width}
	at := (1 + size) * 8
	for range count {
		n, each := 0, 1
		for range width {
			if at/8 >= len(b) {
				return model{}, 0, api.ErrEnd
			}
			n += int(b[at/8]>>(at%8)&1) * each
			each *= 2
			at++
		}
		m.l = append(m.l, n)
	}
	for ; at%8 != 0; at++ {
		if b[at/8]>>(at%8)&1 != 0 {
			return model{}, 0, api.ErrForm
		}
	}
	return m, at / 8, api.OK
}

// counts of numbers, at the edges of bytes and of words.
var counts = []int{0, 1, 2, 3, 7, 8, 9, 15, 16, 17, 31, 32, 63, 64, 65, 127, 128, 129, 200}

// noWidths: there is no array of them.
var noWidths = []int{math.MinInt, -256, -255, -64, -32, -31, -1, 0, 32, 33, 63, 64, 65, 255, 256, 257, 1 << 32, 1<<32 + 1, math.MaxInt}

// noNumbers: no array has them.
var noNumbers = []int{math.MinInt, math.MinInt + 1, -1 << 32, -1 << 31, -65536, -2, -1, 1 << 31, 1<<31 + 1, 1 << 32, 1<<32 + 1, 1 << 62, math.MaxInt - 1, math.MaxInt}

// beyond: numbers that an array of this width can't have.
func beyond(width int) []int {
	return append([]int{top(width) + 1, top(width) + 2, 2*top(width) + 2}, noNumbers...)
}

// off: places that an array of so many numbers hasn't.
func off(n int) []int {
	return []int{math.MinInt, math.MinInt + 1, -1 << 32, -65536, -64, -2, -1, n, n + 1, n + 63, n + 64, n + 65536, 1 << 32, 1 << 59, math.MaxInt - 1, math.MaxInt}
}

// dice has no chance in it: the same numbers each time.
type dice uint64

func (d *dice) below(n int) int {
	*d = *d*6364136223846793005 + 1442695040888963407
	return int(*d>>32) % n
}

// list: so many numbers of that width, small, great and between.
func (d *dice) list(width, n int) []int {
	var l []int
	for range n {
		l = append(l, d.number(width))
	}
	return l
}

func (d *dice) number(width int) int {
	switch d.below(6) {
	case 0:
		return 0
	case 1:
		return top(width)
	case 2:
		return top(width) / 2
	}
	return d.below(top(width) + 1)
}

// same: so many numbers that are this one.
func same(n, count int) []int {
	l := make([]int, count)
	for i := range l {
		l[i] = n
	}
	return l
}

// models of one width: empty, all 0, all 1, every other one, and mixed.
func models(width int) []model {
	d := dice(width)
	var all []model
	for _, n := range counts {
		ones, others := same(top(width), n), same(0, n)
		for i := 1; i < n; i += 2 {
			others[i] = top(width)
		}
		for _, l := range [][]int{ones, others, same(0, n), same(1, n), d.list(width, n)} {
			all = append(all, model{width, l})
		}
	}
	return all
}

// eachModel: all models of all widths.
func eachModel(do func(m model)) {
	for width := 1; width <= 31; width++ {
		for _, m := range models(width) {
			do(m)
		}
	}
}

// made: an array as a model is.
func made(t *testing.T, m model) *packed.Array {
	t.Helper()
	a, e := packed.New(m.width, m.l...)
	if a == nil || e != api.OK {
		t.Fatalf("New(%d, %v) = %v %d", m.width, m.l, a, e)
	}
	return a
}

// agree: whatever is asked of the array, it is as the model.
func agree(t *testing.T, what string, a *packed.Array, m model) {
	t.Helper()
	if a == nil {
		t.Fatalf("%s: no array", what)
	}
	if a.Len() != len(m.l) || a.Width() != m.width {
		t.Fatalf("%s: %d of width %d, want %d of width %d", what, a.Len(), a.Width(), len(m.l), m.width)
	}
	if got := a.All(); !slices.Equal(got, m.l) {
		t.Fatalf("%s of width %d: All() = %v, want %v", what, m.width, got, m.l)
	}
	if got := a.Bytes(); !bytes.Equal(got, m.bytes()) {
		t.Fatalf("%s of width %d: Bytes() = %x, want %x", what, m.width, got, m.bytes())
	}
	for i, want := range m.l {
		if n, e := a.At(i); n != want || e != api.OK {
			t.Fatalf("%s of width %d: At(%d) = %d %d, want %d", what, m.width, i, n, e, want)
		}
	}
	for _, i := range off(len(m.l)) {
		if n, e := a.At(i); n != 0 || e != api.ErrRange {
			t.Fatalf("%s of %d: At(%d) = %d %d", what, len(m.l), i, n, e)
		}
	}
}

// wantNone: there is no array, and this error.
func wantNone(t *testing.T, what string, a *packed.Array, e, want api.Errno) {
	t.Helper()
	if a != nil || e != want {
		t.Errorf("%s = %v %d, want no array and %d", what, a, e, want)
	}
}
