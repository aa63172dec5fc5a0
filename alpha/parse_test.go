package alpha_test

import (
	"bytes"
	"math"
	"slices"
	"testing"

	"incipit/alpha"
	"incipit/api"
	"incipit/varint"
)

// wantParsed: Parse answers what the model's does.
func wantParsed(t *testing.T, b []byte) {
	t.Helper()
	m, left, want := parsed(b)
	x, rest, e := alpha.Parse(b)
	if e != want || !bytes.Equal(rest, left) {
		t.Fatalf("Parse(%x): %x %d, want %x %d", b, rest, e, left, want)
	}
	if want == api.OK {
		agree(t, "Parse", x, m)
	} else if x != nil || rest != nil {
		t.Fatalf("Parse(%x): %v %x beside %d", b, x, rest, e)
	}
}

// lists: one behind the other.
func lists(symbols, counts []int) []byte {
	return append(varint.List(symbols), varint.List(counts)...)
}

// P14.1, P14.3: what Bytes answers is parsed, and what is behind it is the rest.
func TestParse(t *testing.T) {
	check := func(m model) {
		for _, behind := range [][]byte{nil, {0}, {1}, {255}, {128}, {3, 5}, make([]byte, 70)} {
			x, rest, e := alpha.Parse(append(made(t, m).Bytes(), behind...))
			if e != api.OK || !bytes.Equal(rest, behind) {
				t.Fatalf("Parse of %v's bytes and %x: %x %d", m, behind, rest, e)
			}
			if !bytes.Equal(x.Bytes(), m.bytes()) {
				t.Fatalf("Parse of %v's bytes has others: %x", m, x.Bytes())
			}
		}
		wantParsed(t, m.bytes())
	}
	eachModel(check)
	for symbol := range 258 {
		check(model{symbol})
	}
}

// P14.2: bytes as the chapter's words tell them.
func TestBytes(t *testing.T) {
	for _, c := range []struct {
		text []int
		want []byte
	}{
		{nil, []byte{0, 0}},
		{[]int{0}, []byte{1, 0, 1, 1}},
		{[]int{257}, []byte{1, 129, 2, 1, 1}},
		{[]int{257, 0, 257}, []byte{2, 0, 129, 2, 2, 1, 2}},
		{[]int{99, 100, 1, 1, 0}, []byte{4, 0, 1, 99, 100, 4, 1, 2, 1, 1}},
		{slices.Repeat([]int{127}, 128), []byte{1, 127, 1, 128, 1}},
		{slices.Repeat([]int{128}, 65536), []byte{1, 128, 1, 1, 128, 128, 4}},
	} {
		x, e := alpha.New(c.text...)
		if e != api.OK || !bytes.Equal(x.Bytes(), c.want) {
			t.Errorf("of %d symbols: %x %d, want %x", len(c.text), x.Bytes(), e, c.want)
		}
		wantParsed(t, c.want)
	}
}

// P14.1: the errors of the two lists, that of the first one ahead.
func TestParseNamesErrorsOfLists(t *testing.T) {
	long := make([]int, 65537)
	wrong := []struct {
		b    []byte
		want api.Errno
	}{
		// It is missing.
		{nil, api.ErrEnd},
		// Its count is cut, not shortest, too great for a number, or too great for a list.
		{[]byte{128}, api.ErrEnd},
		{[]byte{255, 255}, api.ErrEnd},
		{[]byte{128, 0}, api.ErrForm},
		{[]byte{129, 0, 1}, api.ErrForm},
		{bytes.Repeat([]byte{255}, 11), api.ErrForm},
		{varint.Put(65537), api.ErrLong},
		{varint.Put(math.MaxInt), api.ErrLong},
		{varint.List(long), api.ErrLong},
		// A number is missing, cut, not shortest, or too great.
		{[]byte{1}, api.ErrEnd},
		{[]byte{1, 128}, api.ErrEnd},
		{[]byte{2, 5}, api.ErrEnd},
		{[]byte{3, 5, 6, 255}, api.ErrEnd},
		{varint.Put(65536), api.ErrEnd},
		{[]byte{1, 128, 0}, api.ErrForm},
		{[]byte{2, 5, 133, 0}, api.ErrForm},
		{append([]byte{1}, bytes.Repeat([]byte{255}, 10)...), api.ErrForm},
		{append([]byte{2, 1}, bytes.Repeat([]byte{255}, 11)...), api.ErrForm},
	}
	firsts := [][]byte{
		varint.List(nil), varint.List([]int{0}), varint.List([]int{5, 257}),
		// No table has these symbols: that is named behind the second list's error.
		varint.List([]int{258}), varint.List([]int{5, 5}), varint.List([]int{6, 5}), varint.List([]int{math.MaxInt}), varint.List(long[:65536]),
	}
	for i, c := range wrong {
		x, rest, e := alpha.Parse(c.b)
		if x != nil || rest != nil || e != c.want {
			t.Errorf("case %d: Parse of a wrong first list = %v %x %d, want %d", i, x, rest, e, c.want)
		}
		wantParsed(t, c.b)
		for k, first := range firsts {
			x, rest, e := alpha.Parse(append(bytes.Clone(first), c.b...))
			if x != nil || rest != nil || e != c.want {
				t.Errorf("case %d: Parse of list %d and a wrong one = %v %x %d, want %d", i, k, x, rest, e, c.want)
			}
		}
		for k, other := range wrong {
			// What is cut would go on in what is laid behind it.
			if c.want == api.ErrEnd {
				continue
			}
			x, rest, e := alpha.Parse(append(bytes.Clone(c.b), other.b...))
			if x != nil || rest != nil || e != c.want {
				t.Errorf("cases %d, %d: Parse of two wrong lists = %v %x %d, want %d", i, k, x, rest, e, c.want)
			}
		}
	}
}

// P14.1: two lists that are no table's.
func TestParseOfNoTable(t *testing.T) {
	ones := slices.Repeat([]int{1}, 300)
	all := drawn(300, func(i int) int { return i })
	for i, c := range []struct{ symbols, counts []int }{
		// They are of unlike lengths.
		{nil, []int{1}}, {[]int{0}, nil}, {[]int{0, 1}, []int{1}}, {[]int{0}, []int{1, 1}}, {[]int{0, 1, 2}, []int{1, 1}}, {all[:258], ones[:257]}, {all[:257], ones[:258]},
		// The symbols don't rise, or one is told twice.
		{[]int{1, 0}, ones[:2]}, {[]int{0, 0}, ones[:2]}, {[]int{257, 257}, ones[:2]}, {[]int{0, 2, 1}, ones[:3]}, {[]int{5, 6, 6, 7}, ones[:4]}, {[]int{257, 0}, ones[:2]}, {[]int{0, 1, 2, 0}, ones[:4]}, {[]int{3, 9, 3}, ones[:3]},
		// One is above 257.
		{[]int{258}, ones[:1]}, {[]int{0, 258}, ones[:2]}, {[]int{257, 258}, ones[:2]}, {all[:259], ones[:259]}, {all, ones}, {[]int{512}, ones[:1]}, {[]int{65536}, ones[:1]}, {[]int{1 << 32}, ones[:1]}, {[]int{math.MaxInt}, ones[:1]}, {[]int{5, math.MaxInt}, ones[:2]}, {[]int{math.MaxInt, 5}, ones[:2]},
		// A count is 0.
		{[]int{0}, []int{0}}, {[]int{257}, []int{0}}, {[]int{0, 1}, []int{0, 1}}, {[]int{0, 1}, []int{1, 0}}, {[]int{0, 1, 2}, []int{5, 0, 5}}, {[]int{0, 1}, []int{0, 0}},
		// They are more than 65536 in all.
		{[]int{0}, []int{65537}}, {[]int{0, 1}, []int{65536, 1}}, {[]int{0, 1}, []int{1, 65536}}, {[]int{0, 1}, []int{32768, 32769}}, {[]int{3, 5, 9}, []int{65534, 1, 2}}, {all[:258], slices.Repeat([]int{255}, 258)}, {[]int{0}, []int{1 << 32}}, {[]int{0}, []int{1<<32 + 1}}, {[]int{0}, []int{math.MaxInt}},
		// Their sum does not fit into a number, so that it would be a small one.
		{[]int{0, 1}, []int{math.MaxInt, 1}}, {[]int{0, 1, 2}, []int{math.MaxInt, math.MaxInt, 2}}, {[]int{0, 1, 2}, []int{math.MaxInt, math.MaxInt, 3}}, {[]int{0, 1, 2, 3}, []int{1 << 62, 1 << 62, 1 << 62, 1 << 62}}, {[]int{0, 1, 2, 3, 4}, []int{5, 1 << 62, 1 << 62, 1 << 62, 1 << 62}}, {[]int{0, 1, 2}, []int{2, math.MaxInt, math.MaxInt}}, {[]int{0, 1, 2}, []int{65536, math.MaxInt, math.MaxInt}},
		// Many of them.
		{make([]int, 65536), make([]int, 65536)}, {drawn(65536, func(i int) int { return i }), slices.Repeat([]int{1}, 65536)},
	} {
		for _, behind := range [][]byte{nil, {0}, {1, 1}} {
			b := append(lists(c.symbols, c.counts), behind...)
			x, rest, e := alpha.Parse(b)
			if x != nil || rest != nil || e != api.ErrForm {
				t.Errorf("case %d: Parse = %v %x %d, want ErrForm", i, x, rest, e)
			}
		}
		if len(c.symbols) < 300 {
			wantParsed(t, lists(c.symbols, c.counts))
		}
	}
}

// P14.1: lists that are a table's, up to the edges.
func TestParseOfEdges(t *testing.T) {
	for _, c := range []struct{ symbols, counts []int }{
		{nil, nil}, {[]int{0}, []int{1}}, {[]int{257}, []int{1}}, {[]int{0, 257}, []int{1, 1}}, {[]int{0}, []int{65536}}, {[]int{257}, []int{65536}}, {[]int{0, 1}, []int{65535, 1}}, {[]int{0, 257}, []int{1, 65535}}, {[]int{3, 4, 5}, []int{30000, 30000, 5536}},
		{drawn(258, func(i int) int { return i }), slices.Repeat([]int{254}, 258)},
		{drawn(258, func(i int) int { return i }), append([]int{65536 - 257}, slices.Repeat([]int{1}, 257)...)},
	} {
		b := lists(c.symbols, c.counts)
		x, rest, e := alpha.Parse(append(bytes.Clone(b), 7))
		if e != api.OK || !bytes.Equal(rest, []byte{7}) {
			t.Fatalf("Parse(%x): %x %d", b, rest, e)
		}
		agree(t, "Parse", x, repeated(c.symbols, c.counts))
		if !bytes.Equal(x.Bytes(), b) {
			t.Errorf("Parse(%x) has other bytes: %x", b, x.Bytes())
		}
	}
}

// P14.1: of bytes that are cut anywhere some are missing.
func TestParseOfCutBytes(t *testing.T) {
	eachModel(func(m model) {
		if len(m) > 300 {
			return
		}
		b := m.bytes()
		for n := range b {
			if x, rest, e := alpha.Parse(b[:n]); x != nil || rest != nil || e != api.ErrEnd {
				t.Fatalf("Parse of the first %d of %x: %v %x %d", n, b, x, rest, e)
			}
		}
	})
}

// P14.1: with each bit turned, one by one, Parse answers what the model's does.
func TestParseOfTurnedBits(t *testing.T) {
	for _, m := range []model{nil, {0}, {257}, {99, 100, 1, 1, 0}, {0, 257, 256, 1, 128, 127}, drawn(700, func(i int) int { return i % 5 * 60 })} {
		b := append(m.bytes(), 0xA5)
		for i := range 8 * len(b) {
			b[i/8] ^= 1 << (i % 8)
			wantParsed(t, b)
			b[i/8] ^= 1 << (i % 8)
		}
	}
}

// P14.1: all short bytes of a few kinds.
func TestParseOfAllShortBytes(t *testing.T) {
	of := []byte{0, 1, 2, 3, 128, 130}
	var grow func(b []byte)
	grow = func(b []byte) {
		wantParsed(t, b)
		if len(b) == 6 {
			return
		}
		for _, c := range of {
			grow(append(bytes.Clone(b), c))
		}
	}
	grow(nil)
}

// P1, P14.1: bytes of all kinds are a table's, or it is told what is wrong.
func TestParseOfAnyBytes(t *testing.T) {
	var seed uint32 = 5
	for n := range 5000 {
		b := make([]byte, next(&seed, 12))
		for i := range b {
			b[i] = byte(next(&seed, 2+n%255))
		}
		wantParsed(t, b)
	}
	for range 300 {
		n := next(&seed, 5)
		symbols, counts := make([]int, n), make([]int, max(0, n+next(&seed, 12)/11))
		at := 0
		for i := range symbols {
			at += next(&seed, 90)
			symbols[i] = at
		}
		for i := range counts {
			counts[i] = next(&seed, 12) * next(&seed, 2000)
		}
		wantParsed(t, append(lists(symbols, counts), byte(n)))
	}
}
