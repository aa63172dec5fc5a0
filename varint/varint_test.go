package varint_test

import (
	"bytes"
	"math"
	"math/big"
	"slices"
	"testing"

	"incipit/api"
	"incipit/varint"
)

const (
	plain  uint64 = math.MaxInt    // the greatest number
	signed uint64 = math.MaxUint64 // the greatest one that a signed number stands as
)

// slowPut goes as the chapter's words say it, with numbers of any size.
func slowPut(n *big.Int) []byte {
	var b []byte
	n = new(big.Int).Set(n)
	for {
		low := byte(new(big.Int).And(n, big.NewInt(127)).Int64())
		n.Rsh(n, 7)
		if n.Sign() == 0 {
			return append(b, low)
		}
		b = append(b, low+128)
	}
}

// slowGet: the number at the beginning, how many bytes it has, and the error.
func slowGet(b []byte, greatest uint64) (uint64, int, api.Errno) {
	top, n := new(big.Int).SetUint64(greatest), new(big.Int)
	for i, c := range b {
		if i == 10 {
			return 0, 0, api.ErrForm
		}
		n.Add(n, new(big.Int).Lsh(big.NewInt(int64(c%128)), uint(7*i)))
		if n.Cmp(top) > 0 || i > 0 && c == 0 {
			return 0, 0, api.ErrForm
		}
		if c < 128 {
			return n.Uint64(), i + 1, api.OK
		}
	}
	return 0, 0, api.ErrEnd
}

// slowSigned: the number that a signed one stands as.
func slowSigned(n int) *big.Int {
	s := big.NewInt(int64(n))
	s.Mul(s, big.NewInt(2))
	if n < 0 {
		s.Neg(s)
		s.Sub(s, big.NewInt(1))
	}
	return s
}

// slowUnsigned: the signed number that stands as u.
func slowUnsigned(u uint64) int {
	n := new(big.Int).SetUint64(u)
	if u%2 == 1 {
		n.Add(n, big.NewInt(1))
		n.Neg(n)
	}
	return int(n.Quo(n, big.NewInt(2)).Int64())
}

// numbers: 0 and all around the powers of two, up to the greatest one.
func numbers() []int {
	l := []int{0}
	for i := range 63 {
		l = append(l, 1<<i-1, 1<<i, 1<<i+1)
	}
	return append(l, math.MaxInt-1, math.MaxInt)
}

// below: numbers below 0.
func below() []int {
	var l []int
	for _, n := range numbers() {
		l = append(l, ^n)
	}
	return l
}

// rows: all rows of these bytes that have that length.
func rows(of []byte, length int) [][]byte {
	l := [][]byte{{}}
	for range length {
		var next [][]byte
		for _, row := range l {
			for _, c := range of {
				next = append(next, append(bytes.Clone(row), c))
			}
		}
		l = next
	}
	return l
}

// wrong: rows of bytes, many of which are no number, be it at their first or their last bytes.
func wrong() [][]byte {
	var l [][]byte
	for length := range 5 {
		l = append(l, rows([]byte{0, 1, 127, 128, 129, 255}, length)...)
	}
	for _, ahead := range [][]byte{{128}, {129}, {255}} {
		for n := 5; n <= 10; n++ {
			for length := range 4 {
				for _, behind := range rows([]byte{0, 1, 2, 3, 127, 128, 129, 130, 255}, length) {
					l = append(l, append(bytes.Repeat(ahead, n), behind...))
				}
			}
		}
	}
	return l
}

// some: n bytes of no simple pattern, the same ones for the same seed.
func some(n int, seed uint32) []byte {
	b := make([]byte, n)
	for i := range b {
		seed = seed*1664525 + 1013904223
		b[i] = byte(seed >> 24)
	}
	return b
}

// P2.1: a number's bytes are as few as can be, seven bits in each, the lowest first.
func TestPutOfOne(t *testing.T) {
	for _, c := range []struct {
		n    int
		want []byte
	}{
		{0, []byte{0}},
		{1, []byte{1}},
		{127, []byte{127}},
		{128, []byte{128, 1}},
		{300, []byte{172, 2}},
		{16383, []byte{255, 127}},
		{16384, []byte{128, 128, 1}},
		{math.MaxInt, []byte{255, 255, 255, 255, 255, 255, 255, 255, 127}},
	} {
		if got := varint.Put(c.n); !bytes.Equal(got, c.want) {
			t.Errorf("Put(%d) = %d, want %d", c.n, got, c.want)
		}
	}
	for _, n := range numbers() {
		if got, want := varint.Put(n), slowPut(big.NewInt(int64(n))); !bytes.Equal(got, want) {
			t.Errorf("Put(%d) = %d, want %d", n, got, want)
		}
	}
}

// P2.1: numbers stand one behind the other; no numbers have no bytes.
func TestPutOfMany(t *testing.T) {
	if got := varint.Put(); len(got) != 0 {
		t.Errorf("Put of no numbers = %d, want nothing", got)
	}
	var want []byte
	for i, n := range numbers() {
		want = append(want, slowPut(big.NewInt(int64(n)))...)
		if got := varint.Put(numbers()[:i+1]...); !bytes.Equal(got, want) {
			t.Fatalf("Put of %d numbers = %d, want %d", i+1, got, want)
		}
	}
}

// P2.1: one number below 0, wherever it stands, leaves nothing at all.
func TestPutBelow(t *testing.T) {
	for _, n := range below() {
		for _, l := range [][]int{{n}, {n, 1, 2}, {1, n, 2}, {1, 2, n}, {n, n}} {
			if got := varint.Put(l...); len(got) != 0 {
				t.Errorf("Put(%d) = %d, want nothing", l, got)
			}
		}
	}
}

// P2.1: the size is how many bytes there are, and 0 of a number below 0.
func TestSize(t *testing.T) {
	for _, n := range numbers() {
		if got, want := varint.Size(n), len(slowPut(big.NewInt(int64(n)))); got != want {
			t.Errorf("Size(%d) = %d, want %d", n, got, want)
		}
	}
	for _, n := range below() {
		if got := varint.Size(n); got != 0 {
			t.Errorf("Size(%d) = %d, want 0", n, got)
		}
	}
	for n, want := range map[int]int{0: 1, 127: 1, 128: 2, 1 << 62: 9, math.MaxInt: 9} {
		if got := varint.Size(n); got != want {
			t.Errorf("Size(%d) = %d, want %d", n, got, want)
		}
	}
}

// P2.1: each error, and where it is met.
func TestGetNamesErrors(t *testing.T) {
	full := func(n int, behind ...byte) []byte { return append(bytes.Repeat([]byte{128}, n), behind...) }
	for _, c := range []struct {
		b    []byte
		want api.Errno
	}{
		{nil, api.ErrEnd},
		{[]byte{}, api.ErrEnd},
		{[]byte{128}, api.ErrEnd},
		{[]byte{255, 255}, api.ErrEnd},
		{full(8), api.ErrEnd},
		{full(9), api.ErrEnd},
		{full(10), api.ErrEnd}, // no byte so far made it too great, and an eleventh isn't there
		{[]byte{0}, api.OK},
		{[]byte{0, 0}, api.OK},
		{[]byte{128, 0}, api.ErrForm},
		{[]byte{255, 128, 0}, api.ErrForm},
		{full(8, 0), api.ErrForm},
		{full(8, 1), api.OK},
		{full(8, 127), api.OK},
		{full(9, 0), api.ErrForm},
		{full(9, 1), api.ErrForm},
		{full(9, 127), api.ErrForm},
		{full(9, 129), api.ErrForm}, // too great already, though bytes are missing behind it
		{full(10, 0), api.ErrForm},
		{full(10, 1), api.ErrForm},
		{full(10, 128), api.ErrForm},
		{full(20), api.ErrForm},
		{bytes.Repeat([]byte{255}, 9), api.ErrEnd},
		{bytes.Repeat([]byte{255}, 10), api.ErrForm},
	} {
		n, rest, e := varint.Get(c.b)
		if e != c.want || e != api.OK && (n != 0 || rest != nil) {
			t.Errorf("Get(%d) = %d, %d, %d, want error %d", c.b, n, rest, e, c.want)
		}
	}
}

// P2.1: Get is that of the words, of many rows of bytes that are right or wrong.
func TestGetIsThatOfTheWords(t *testing.T) {
	for _, b := range wrong() {
		u, size, want := slowGet(b, plain)
		n, rest, e := varint.Get(b)
		if e != want || uint64(n) != u {
			t.Fatalf("Get(%d) = %d, %d, want %d, %d", b, n, e, u, want)
		}
		if e != api.OK && rest != nil || e == api.OK && !bytes.Equal(rest, b[size:]) {
			t.Fatalf("Get(%d): the rest is %d, behind %d bytes", b, rest, size)
		}
	}
}

// P2.2: signed numbers stand as 2n, or as -2n-1.
func TestSigned(t *testing.T) {
	least := append(bytes.Repeat([]byte{255}, 9), 1)
	for _, c := range []struct {
		n    int
		want []byte
	}{
		{0, []byte{0}},
		{-1, []byte{1}},
		{1, []byte{2}},
		{-2, []byte{3}},
		{63, []byte{126}},
		{-64, []byte{127}},
		{64, []byte{128, 1}},
		{math.MaxInt, append([]byte{254}, least[1:]...)},
		{math.MinInt, least},
	} {
		if got := varint.Signed(c.n); !bytes.Equal(got, c.want) {
			t.Errorf("Signed(%d) = %d, want %d", c.n, got, c.want)
		}
	}
	for _, n := range slices.Concat(numbers(), below()) {
		if got, want := varint.Signed(n), slowPut(slowSigned(n)); !bytes.Equal(got, want) {
			t.Errorf("Signed(%d) = %d, want %d", n, got, want)
		}
	}
}

// P2.2: a signed number may be up to 2^64-1, and has no eleventh byte.
func TestGetSignedNamesErrors(t *testing.T) {
	full := func(n int, behind ...byte) []byte { return append(bytes.Repeat([]byte{255}, n), behind...) }
	for _, c := range []struct {
		b    []byte
		n    int
		want api.Errno
	}{
		{nil, 0, api.ErrEnd},
		{[]byte{128}, 0, api.ErrEnd},
		{[]byte{128, 0}, 0, api.ErrForm},
		{full(9), 0, api.ErrEnd},
		{full(9, 0), 0, api.ErrForm},
		{full(9, 1), math.MinInt, api.OK},
		{full(9, 2), 0, api.ErrForm},
		{full(9, 130), 0, api.ErrForm}, // too great already
		{full(9, 129), 0, api.ErrEnd},
		{full(9, 128), 0, api.ErrEnd},
		{full(9, 129, 0), 0, api.ErrForm},
		{full(9, 128, 1), 0, api.ErrForm},
		{full(10), 0, api.ErrForm},
	} {
		n, rest, e := varint.GetSigned(c.b)
		if e != c.want || n != c.n || e != api.OK && rest != nil {
			t.Errorf("GetSigned(%d) = %d, %d, %d, want %d, error %d", c.b, n, rest, e, c.n, c.want)
		}
	}
}

// P2.2: GetSigned is that of the words, of many rows of bytes that are right or wrong.
func TestGetSignedIsThatOfTheWords(t *testing.T) {
	for _, b := range wrong() {
		u, size, want := slowGet(b, signed)
		n, rest, e := varint.GetSigned(b)
		if e != want || n != slowUnsigned(u) {
			t.Fatalf("GetSigned(%d) = %d, %d, want %d, %d", b, n, e, slowUnsigned(u), want)
		}
		if e != api.OK && rest != nil || e == api.OK && !bytes.Equal(rest, b[size:]) {
			t.Fatalf("GetSigned(%d): the rest is %d, behind %d bytes", b, rest, size)
		}
	}
}

// P2.2: a list's bytes are how many there are, and all of them.
func TestList(t *testing.T) {
	for _, l := range [][]int{nil, {}, {0}, {5, 0, 300}, {math.MaxInt}, numbers(), make([]int, 300)} {
		want := append(varint.Put(len(l)), varint.Put(l...)...)
		if got := varint.List(l); !bytes.Equal(got, want) {
			t.Errorf("List(%d) = %d, want %d", l, got, want)
		}
	}
	if got := varint.List(nil); !bytes.Equal(got, []byte{0}) {
		t.Errorf("List of no numbers = %d, want 0", got)
	}
	if got, want := varint.List([]int{5, 0, 300}), []byte{3, 5, 0, 172, 2}; !bytes.Equal(got, want) {
		t.Errorf("List = %d, want %d", got, want)
	}
	for _, n := range below() {
		for _, l := range [][]int{{n}, {n, 1}, {1, n}, {1, n, 2}} {
			if got := varint.List(l); len(got) != 0 {
				t.Errorf("List(%d) = %d, want nothing", l, got)
			}
		}
	}
}

// P2.2: the errors of a list, in the order in which they are met.
func TestGetListNamesErrors(t *testing.T) {
	much := bytes.Repeat([]byte{255}, 10)
	for i, c := range []struct {
		b    []byte
		want api.Errno
	}{
		{nil, api.ErrEnd},
		{[]byte{128}, api.ErrEnd},
		{[]byte{128, 0}, api.ErrForm},
		{much, api.ErrForm},
		{[]byte{0}, api.OK},
		{[]byte{1}, api.ErrEnd},
		{[]byte{2, 7}, api.ErrEnd},
		{[]byte{2, 7, 128}, api.ErrEnd},
		{[]byte{2, 7, 128, 0}, api.ErrForm},
		{[]byte{3, 128, 0}, api.ErrForm}, // the first number's, ahead of those missing
		{append([]byte{2}, much...), api.ErrForm},
		{varint.Put(65537), api.ErrLong}, // ahead of the numbers that are missing
		{append(varint.Put(65537), 128, 0), api.ErrLong},
		{varint.Put(math.MaxInt), api.ErrLong},
		{varint.Put(65536), api.ErrEnd},
		{append(varint.Put(65536), 128, 0), api.ErrForm},
		{append(varint.Put(65536), make([]byte, 65535)...), api.ErrEnd},
	} {
		l, rest, e := varint.GetList(c.b)
		if e != c.want || e != api.OK && (l != nil || rest != nil) {
			t.Errorf("case %d: GetList = %d, %d, error %d, want error %d", i, l, rest, e, c.want)
		}
	}
}

// P2.2: as many as 65536 numbers are got, and one more isn't.
func TestGetListOfMany(t *testing.T) {
	l := make([]int, 65537)
	for i := range l {
		l[i] = i * 7
	}
	got, rest, e := varint.GetList(append(varint.List(l[:65536]), 9, 9))
	if e != api.OK || !slices.Equal(got, l[:65536]) || !bytes.Equal(rest, []byte{9, 9}) {
		t.Errorf("of 65536: %d numbers, the rest %d, error %d", len(got), rest, e)
	}
	if got, rest, e := varint.GetList(varint.List(l)); e != api.ErrLong || got != nil || rest != nil {
		t.Errorf("of 65537: %d numbers, the rest %d, error %d, want %d", len(got), rest, e, api.ErrLong)
	}
}

// P2.2: texts stand one behind the other, each behind its size.
func TestText(t *testing.T) {
	if got := varint.Text(); len(got) != 0 {
		t.Errorf("Text of no texts = %d, want nothing", got)
	}
	for _, c := range []struct {
		l    [][]byte
		want []byte
	}{
		{[][]byte{nil}, []byte{0}},
		{[][]byte{{}, nil}, []byte{0, 0}},
		{[][]byte{[]byte("ab")}, []byte{2, 'a', 'b'}},
		{[][]byte{[]byte("ab"), nil, []byte("c")}, []byte{2, 'a', 'b', 0, 1, 'c'}},
		{[][]byte{some(127, 1)}, append([]byte{127}, some(127, 1)...)},
		{[][]byte{some(128, 1)}, append([]byte{128, 1}, some(128, 1)...)},
		{[][]byte{some(70000, 1)}, append(varint.Put(70000), some(70000, 1)...)},
	} {
		if got := varint.Text(c.l...); !bytes.Equal(got, c.want) {
			t.Errorf("Text of %d texts = %d, want %d", len(c.l), got, c.want)
		}
	}
}

// P2.2: the errors of a text.
func TestGetTextNamesErrors(t *testing.T) {
	for _, c := range []struct {
		b    []byte
		want api.Errno
	}{
		{nil, api.ErrEnd},
		{[]byte{128}, api.ErrEnd},
		{[]byte{128, 0}, api.ErrForm},
		{[]byte{128, 0, 1, 2}, api.ErrForm},
		{bytes.Repeat([]byte{255}, 10), api.ErrForm},
		{[]byte{0}, api.OK},
		{[]byte{1}, api.ErrEnd},
		{[]byte{3, 1, 2}, api.ErrEnd},
		{[]byte{3, 1, 2, 3}, api.OK},
		{append(varint.Put(math.MaxInt), 1, 2, 3), api.ErrEnd},
	} {
		text, rest, e := varint.GetText(c.b)
		if e != c.want || e != api.OK && (text != nil || rest != nil) {
			t.Errorf("GetText(%d) = %d, %d, error %d, want error %d", c.b, text, rest, e, c.want)
		}
	}
}

// P2.3: Fixed has so many of a number's lowest bytes, of all numbers.
func TestFixed(t *testing.T) {
	for _, c := range []struct {
		n, size int
		want    []byte
	}{
		{258, 0, nil},
		{258, 1, []byte{2}},
		{258, 2, []byte{2, 1}},
		{258, 3, []byte{2, 1, 0}},
		{258, 8, []byte{2, 1, 0, 0, 0, 0, 0, 0}},
		{-1, 0, nil},
		{-1, 3, []byte{255, 255, 255}},
		{-2, 8, []byte{254, 255, 255, 255, 255, 255, 255, 255}},
		{math.MinInt, 8, []byte{0, 0, 0, 0, 0, 0, 0, 128}},
		{math.MaxInt, 8, []byte{255, 255, 255, 255, 255, 255, 255, 127}},
		{0x0807060504030201, 7, []byte{1, 2, 3, 4, 5, 6, 7}},
		{0x0807060504030201, 8, []byte{1, 2, 3, 4, 5, 6, 7, 8}},
		{258, 9, nil},
		{258, -1, nil},
		{258, math.MaxInt, nil},
		{258, math.MinInt, nil},
	} {
		if got := varint.Fixed(c.n, c.size); !bytes.Equal(got, c.want) {
			t.Errorf("Fixed(%d, %d) = %d, want %d", c.n, c.size, got, c.want)
		}
	}
}

// P2.3: GetFixed's errors, the first named ahead.
func TestGetFixedNamesErrors(t *testing.T) {
	great := bytes.Repeat([]byte{255}, 9)
	for _, c := range []struct {
		b    []byte
		size int
		n    int
		want api.Errno
	}{
		{nil, 0, 0, api.ErrArg}, // ahead of the bytes that are missing
		{nil, 9, 0, api.ErrArg},
		{nil, -1, 0, api.ErrArg},
		{great, 0, 0, api.ErrArg},
		{great, 9, 0, api.ErrArg},
		{great, math.MinInt, 0, api.ErrArg},
		{great, math.MaxInt, 0, api.ErrArg},
		{nil, 1, 0, api.ErrEnd},
		{nil, 8, 0, api.ErrEnd},
		{great[:1], 2, 0, api.ErrEnd},
		{great[:7], 8, 0, api.ErrEnd},
		{great, 8, 0, api.ErrForm},
		{[]byte{0, 0, 0, 0, 0, 0, 0, 128}, 8, 0, api.ErrForm},
		{[]byte{255, 255, 255, 255, 255, 255, 255, 127}, 8, math.MaxInt, api.OK},
		{great, 7, 1<<56 - 1, api.OK},
		{great, 1, 255, api.OK},
		{[]byte{2, 1, 7}, 2, 258, api.OK},
		{[]byte{0, 0, 0}, 3, 0, api.OK},
	} {
		n, rest, e := varint.GetFixed(c.b, c.size)
		if e != c.want || n != c.n {
			t.Errorf("GetFixed(%d, %d) = %d, %d, want %d, %d", c.b, c.size, n, e, c.n, c.want)
		}
		if e != api.OK && rest != nil || e == api.OK && !bytes.Equal(rest, c.b[c.size:]) {
			t.Errorf("GetFixed(%d, %d): the rest is %d", c.b, c.size, rest)
		}
	}
}

// P2.4: numbers are got as they were put, and the rest is the rest.
func TestNumbersComeBack(t *testing.T) {
	for _, behind := range [][]byte{nil, {0}, {128}, {255, 255, 3}} {
		for _, n := range numbers() {
			b := append(varint.Put(n), behind...)
			if got, rest, e := varint.Get(b); e != api.OK || got != n || !bytes.Equal(rest, behind) {
				t.Errorf("Get of %d, and %d behind: %d, %d, %d", n, behind, got, rest, e)
			}
		}
		for _, n := range slices.Concat(numbers(), below()) {
			b := append(varint.Signed(n), behind...)
			if got, rest, e := varint.GetSigned(b); e != api.OK || got != n || !bytes.Equal(rest, behind) {
				t.Errorf("GetSigned of %d, and %d behind: %d, %d, %d", n, behind, got, rest, e)
			}
		}
		for size := 1; size <= 8; size++ {
			for _, n := range numbers() {
				b := append(varint.Fixed(n, size), behind...)
				want := n & int(math.MaxUint64>>(64-8*size)&plain)
				if got, rest, e := varint.GetFixed(b, size); e != api.OK || got != want || !bytes.Equal(rest, behind) {
					t.Errorf("GetFixed of %d bytes of %d, and %d behind: %d, %d, %d", size, n, behind, got, rest, e)
				}
			}
		}
	}
}

// P2.4: many numbers are got one by one, till nothing is left.
func TestRestsAreGoneThrough(t *testing.T) {
	b := varint.Put(numbers()...)
	for _, n := range numbers() {
		got, rest, e := varint.Get(b)
		if e != api.OK || got != n {
			t.Fatalf("got %d, %d, want %d", got, e, n)
		}
		b = rest
	}
	if _, _, e := varint.Get(b); len(b) != 0 || e != api.ErrEnd {
		t.Errorf("%d is left, error %d", b, e)
	}
}

// P2.4: lists and texts are got as they were put, and the rest is the rest.
func TestListsAndTextsComeBack(t *testing.T) {
	for _, behind := range [][]byte{nil, {0}, {128}, {255, 255, 3}} {
		for n := range len(numbers()) {
			l := numbers()[:n]
			got, rest, e := varint.GetList(append(varint.List(l), behind...))
			if e != api.OK || !slices.Equal(got, l) || !bytes.Equal(rest, behind) {
				t.Errorf("GetList of %d numbers, and %d behind: %d, %d, %d", n, behind, got, rest, e)
			}
		}
		for n := range 300 {
			text := some(n, uint32(n))
			got, rest, e := varint.GetText(append(varint.Text(text), behind...))
			if e != api.OK || !bytes.Equal(got, text) || !bytes.Equal(rest, behind) {
				t.Errorf("GetText of %d bytes, and %d behind: %d, %d, %d", n, behind, got, rest, e)
			}
		}
	}
	b := varint.Text([]byte("ab"), nil, []byte("c"))
	for _, want := range []string{"ab", "", "c"} {
		got, rest, e := varint.GetText(b)
		if e != api.OK || string(got) != want {
			t.Fatalf("GetText = %q, %d, want %q", got, e, want)
		}
		b = rest
	}
	if len(b) != 0 {
		t.Errorf("%d is left", b)
	}
}

// P2.4: of bytes that are missing at the end nothing is got.
func TestCutBytesAreMissing(t *testing.T) {
	l := []int{5, 0, 300, math.MaxInt}
	for b, list := 0, varint.List(l); b < len(list); b++ {
		if _, _, e := varint.GetList(list[:b]); e != api.ErrEnd {
			t.Errorf("GetList of the first %d bytes: %d, want %d", b, e, api.ErrEnd)
		}
	}
	for b, text := 0, varint.Text(some(200, 4)); b < len(text); b++ {
		if _, _, e := varint.GetText(text[:b]); e != api.ErrEnd {
			t.Errorf("GetText of the first %d bytes: %d, want %d", b, e, api.ErrEnd)
		}
	}
	for b, n := 0, varint.Signed(math.MinInt); b < len(n); b++ {
		if _, _, e := varint.GetSigned(n[:b]); e != api.ErrEnd {
			t.Errorf("GetSigned of the first %d bytes: %d, want %d", b, e, api.ErrEnd)
		}
	}
}

// P2.4: what is handed in stays as it was, also behind its end.
func TestArgumentsAreNotChanged(t *testing.T) {
	whole := append(varint.Text([]byte("abcdef")), 1, 2, 3, 4, 5, 6, 7, 8, 9)
	was := bytes.Clone(whole)
	b := whole[:7]
	varint.Get(b)
	varint.GetSigned(b)
	varint.GetList(b)
	varint.GetText(b)
	varint.GetFixed(b, 3)
	varint.Text(b, b)
	if !bytes.Equal(whole, was) {
		t.Errorf("bytes were changed: %d, were %d", whole, was)
	}
	l := numbers()
	varint.Put(l[:3]...)
	varint.List(l[:3])
	if !slices.Equal(l, numbers()) {
		t.Errorf("numbers were changed: %d", l)
	}
}

// P2.4: answers share no memory with what was handed in, nor with each other.
func TestAnswersAreNewMemory(t *testing.T) {
	for name, get := range map[string]func(b []byte) []byte{
		"Get":       func(b []byte) []byte { _, rest, _ := varint.Get(b); return rest },
		"GetSigned": func(b []byte) []byte { _, rest, _ := varint.GetSigned(b); return rest },
		"GetList":   func(b []byte) []byte { _, rest, _ := varint.GetList(b); return rest },
		"GetText":   func(b []byte) []byte { _, rest, _ := varint.GetText(b); return rest },
		"GetFixed":  func(b []byte) []byte { _, rest, _ := varint.GetFixed(b, 1); return rest },
	} {
		b := []byte{2, 7, 8, 9, 10}
		rest := get(b)
		if len(rest) == 0 {
			t.Fatalf("%s: nothing is left", name)
		}
		was := bytes.Clone(rest)
		for i := range b {
			b[i] = 255
		}
		if !bytes.Equal(rest, was) {
			t.Errorf("%s: the rest shares memory with what was handed in", name)
		}
		clear(rest[:cap(rest)])
		if !bytes.Equal(b, []byte{255, 255, 255, 255, 255}) {
			t.Errorf("%s: what was handed in shares memory with the rest", name)
		}
	}
	b := varint.Text([]byte("ab"), []byte("cd"))
	text, rest, _ := varint.GetText(b)
	clear(b)
	if string(text) != "ab" || !bytes.Equal(rest, varint.Text([]byte("cd"))) {
		t.Errorf("GetText shares memory: %q, %d", text, rest)
	}
	_ = append(text, 99, 99)
	if !bytes.Equal(rest, varint.Text([]byte("cd"))) {
		t.Errorf("the text and the rest share memory: %d", rest)
	}
	in := []byte("ab")
	out := varint.Text(in)
	clear(in)
	if !bytes.Equal(out, []byte{2, 'a', 'b'}) {
		t.Errorf("Text shares memory: %d", out)
	}
}

// P1, P2: no arguments make a call panic, and the same calls have the same answers.
func TestSameCallsSameAnswers(t *testing.T) {
	run := func() []byte {
		var out []byte
		tell := func(n int, b []byte, e api.Errno) {
			out = append(out, varint.Signed(n)...)
			out = append(out, b...)
			out = append(out, byte(e))
		}
		for seed := range uint32(300) {
			b := some(int(seed%23), seed)
			tell(varint.Get(b))
			tell(varint.GetSigned(b))
			for size := -1; size <= 9; size++ {
				tell(varint.GetFixed(b, size))
				out = append(out, varint.Fixed(int(seed)-150, size)...)
			}
			l, rest, e := varint.GetList(b)
			tell(len(l), rest, e)
			out = append(out, varint.List(l)...)
			text, rest, e := varint.GetText(b)
			tell(len(text), rest, e)
			out = append(out, varint.Text(text, rest)...)
		}
		return out
	}
	if !bytes.Equal(run(), run()) {
		t.Error("the same calls had other answers")
	}
}
