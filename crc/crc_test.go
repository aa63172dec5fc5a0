package crc_test

import (
	"bytes"
	"hash/crc32"
	"math"
	"testing"

	"incipit/crc"
)

// slowSum goes bit by bit, as the chapter's words say it.
func slowSum(b []byte) uint32 {
	register := ^uint32(0)
	for _, c := range b {
		for i := range 8 {
			same := register&1 == uint32(c>>i)&1
			register >>= 1
			if !same {
				register ^= 0x82F63B78
			}
		}
	}
	return ^register
}

// some: n bytes of no simple pattern, the same ones for the same seed.
func some(n int, seed uint32) []byte {
	b := make([]byte, n)
	for i := range b {
		seed = seed*1664525 + 1013904223
		b[i] = byte(seed >> 24)
	}
	return b
}

// fixed: texts whose sums are known from elsewhere.
func fixed() map[string]uint32 {
	rising, falling := make([]byte, 32), make([]byte, 32)
	for i := range rising {
		rising[i], falling[i] = byte(i), byte(31-i)
	}
	return map[string]uint32{
		"":                                     0,
		"a":                                    0xC1D04330,
		"123456789":                            0xE3069283,
		string(rising):                         0x46DD794E,
		string(falling):                        0x113FDB5C,
		string(make([]byte, 32)):               0x8A9136AA,
		string(bytes.Repeat([]byte{0xFF}, 32)): 0x62A8AB43,
		"The quick brown fox jumps over the lazy": slowSum([]byte("The quick brown fox jumps over the lazy")),
	}
}

// P1.1: Sum is CRC-32C.
func TestSumOfKnownTexts(t *testing.T) {
	for s, want := range fixed() {
		if got := crc.Sum([]byte(s)); got != want {
			t.Errorf("Sum(%q) = %08x, want %08x", s, got, want)
		}
	}
}

// P1.1: each byte's steps are right, and so are those of many bytes.
func TestSumIsThatOfTheWords(t *testing.T) {
	for c := range 256 {
		b := []byte{byte(c)}
		if got, want := crc.Sum(b), slowSum(b); got != want {
			t.Errorf("Sum(%x) = %08x, want %08x", b, got, want)
		}
	}
	table := crc32.MakeTable(crc32.Castagnoli)
	for n := range 300 {
		b := some(n, uint32(n))
		got := crc.Sum(b)
		if got != slowSum(b) || got != crc32.Checksum(b, table) {
			t.Errorf("Sum of %d bytes = %08x, want %08x", n, got, slowSum(b))
		}
	}
	big := some(1<<20, 7)
	if got, want := crc.Sum(big), crc32.Checksum(big, table); got != want {
		t.Errorf("Sum of %d bytes = %08x, want %08x", len(big), got, want)
	}
}

// P1.1: no parts, and parts without bytes, are the sum of nothing.
func TestSumOfNothing(t *testing.T) {
	for i, parts := range [][][]byte{nil, {}, {nil}, {{}}, {nil, {}, nil}} {
		if got := crc.Sum(parts...); got != 0 {
			t.Errorf("case %d: Sum = %08x, want 0", i, got)
		}
	}
}

// P1.1, P1.3: parts are put one behind the other, and how they are cut doesn't matter.
func TestCutsDoNotMatter(t *testing.T) {
	b := some(40, 3)
	want := slowSum(b)
	for i := 0; i <= len(b); i++ {
		for j := i; j <= len(b); j++ {
			if got := crc.Sum(b[:i], nil, b[i:j], []byte{}, b[j:]); got != want {
				t.Fatalf("Sum cut at %d and %d = %08x, want %08x", i, j, got, want)
			}
			var r crc.Register
			r.Add(b[:i], b[i:j]).Add().Add(b[j:])
			if r.Sum() != want || r.Len() != len(b) {
				t.Fatalf("Register cut at %d and %d: %08x of %d, want %08x of %d", i, j, r.Sum(), r.Len(), want, len(b))
			}
		}
	}
	if crc.Sum([]byte("ab"), []byte("c")) == crc.Sum([]byte("c"), []byte("ab")) {
		t.Error("the order of parts has to matter")
	}
}

// P1.1: the zero Register was told nothing.
func TestZeroRegister(t *testing.T) {
	var r crc.Register
	if r.Sum() != 0 || r.Len() != 0 {
		t.Errorf("zero Register: %08x of %d, want 0 of 0", r.Sum(), r.Len())
	}
	if got := r.Add(); got != &r || r.Sum() != 0 || r.Len() != 0 {
		t.Errorf("behind no parts: %08x of %d, want 0 of 0", r.Sum(), r.Len())
	}
	if got := r.Add(nil, []byte{}); got != &r || r.Sum() != 0 || r.Len() != 0 {
		t.Errorf("behind empty parts: %08x of %d, want 0 of 0", r.Sum(), r.Len())
	}
}

// P1.1: Add answers the register itself, and asking doesn't change what was told.
func TestRegisterGoesOn(t *testing.T) {
	var r crc.Register
	var all []byte
	for n := range 50 {
		part := some(n, uint32(n)+100)
		all = append(all, part...)
		if r.Add(part) != &r {
			t.Fatal("Add has to answer the register")
		}
		for range 2 {
			if r.Sum() != slowSum(all) || r.Len() != len(all) {
				t.Fatalf("behind part %d: %08x of %d, want %08x of %d", n, r.Sum(), r.Len(), slowSum(all), len(all))
			}
		}
	}
}

// P1.1: one register knows nothing of another, be it a copy.
func TestRegistersAreApart(t *testing.T) {
	var a crc.Register
	a.Add([]byte("1234"))
	b := a
	b.Add([]byte("56789"))
	a.Add([]byte("x"))
	if b.Sum() != 0xE3069283 || b.Len() != 9 {
		t.Errorf("%08x of %d, want e3069283 of 9", b.Sum(), b.Len())
	}
	if want := slowSum([]byte("1234x")); a.Sum() != want || a.Len() != 5 {
		t.Errorf("%08x of %d, want %08x of 5", a.Sum(), a.Len(), want)
	}
}

// P1.3: a nil Register answers nil, the sum of no bytes, and 0.
func TestNilRegister(t *testing.T) {
	var r *crc.Register
	if r.Add() != nil || r.Add(nil) != nil || r.Add([]byte("abc"), []byte("d")) != nil {
		t.Error("Add of a nil Register has to be nil")
	}
	if r.Sum() != 0 || r.Len() != 0 {
		t.Errorf("nil Register: %08x of %d, want 0 of 0", r.Sum(), r.Len())
	}
}

// P1.2: the sum stands behind the bytes, the lowest byte first.
func TestMark(t *testing.T) {
	if got, want := crc.Mark([]byte("123456789")), []byte("123456789\x83\x92\x06\xE3"); !bytes.Equal(got, want) {
		t.Errorf("Mark = %x, want %x", got, want)
	}
	for _, b := range [][]byte{nil, {}} {
		if got := crc.Mark(b); !bytes.Equal(got, make([]byte, 4)) {
			t.Errorf("Mark of nothing = %x, want 00000000", got)
		}
	}
}

// P1.2: bytes hold with the sum of all ahead of the last four, and with nothing else.
func TestHolds(t *testing.T) {
	for n := range 4 {
		for _, c := range []byte{0, 1, 0xFF} {
			if b := bytes.Repeat([]byte{c}, n); crc.Holds(b) {
				t.Errorf("%x has fewer than four bytes and can't hold", b)
			}
		}
	}
	if crc.Holds(nil) {
		t.Error("nil can't hold")
	}
	if !crc.Holds([]byte{0, 0, 0, 0}) {
		t.Error("the sum of nothing has to hold")
	}
	for _, b := range [][]byte{{0, 0, 0, 1}, {1, 0, 0, 0}, {0xFF, 0xFF, 0xFF, 0xFF}, {0, 0, 0, 0, 0}, []byte("123456789\xE3\x06\x92\x83")} {
		if crc.Holds(b) {
			t.Errorf("%x can't hold", b)
		}
	}
	if !crc.Holds([]byte("123456789\x83\x92\x06\xE3")) {
		t.Error("123456789 and its sum have to hold")
	}
}

// P1.3: marked bytes hold; with one byte turned they don't, nor one longer or shorter.
func TestMarkedHolds(t *testing.T) {
	for n := range 260 {
		b := crc.Mark(some(n, uint32(n)+9))
		if len(b) != n+4 || !crc.Holds(b) {
			t.Fatalf("%d bytes marked have to hold", n)
		}
		if crc.Holds(b[:n+3]) || crc.Holds(append(bytes.Clone(b), 1)) {
			t.Fatalf("%d bytes marked, of another length, can't hold", n)
		}
		for at := range b {
			if crc.Holds(crc.Turn(b, at, byte(1)<<(at%8))) {
				t.Fatalf("%d bytes marked, with byte %d turned, can't hold", n, at)
			}
		}
	}
}

// P1.3: whichever bits of a byte are turned, it is seen.
func TestEveryTurnIsSeen(t *testing.T) {
	b := crc.Mark(some(20, 5))
	for at := range b {
		for by := 1; by < 256; by++ {
			if crc.Holds(crc.Turn(b, at, byte(by))) {
				t.Fatalf("byte %d turned by %02x: can't hold", at, by)
			}
		}
		if !crc.Holds(crc.Turn(b, at, 0)) {
			t.Fatalf("byte %d turned by nothing: has to hold", at)
		}
	}
}

// P1.2: Turn turns these bits of that byte.
func TestTurn(t *testing.T) {
	b := []byte{0x00, 0x0F, 0xFF}
	for _, c := range []struct {
		at   int
		by   byte
		want []byte
	}{
		{0, 0x01, []byte{0x01, 0x0F, 0xFF}},
		{1, 0x3C, []byte{0x00, 0x33, 0xFF}},
		{2, 0xFF, []byte{0x00, 0x0F, 0x00}},
		{1, 0x00, b},
		{3, 0xFF, b},
		{-1, 0xFF, b},
		{math.MaxInt, 0xFF, b},
		{math.MinInt, 0xFF, b},
	} {
		if got := crc.Turn(b, c.at, c.by); !bytes.Equal(got, c.want) {
			t.Errorf("Turn(%x, %d, %02x) = %x, want %x", b, c.at, c.by, got, c.want)
		}
	}
	for _, at := range []int{math.MinInt, -1, 0, 1, math.MaxInt} {
		if got := crc.Turn(nil, at, 1); len(got) != 0 {
			t.Errorf("Turn(nil, %d, 1) = %x, want nothing", at, got)
		}
		if got := crc.Turn([]byte{}, at, 1); len(got) != 0 {
			t.Errorf("Turn of no bytes at %d = %x, want nothing", at, got)
		}
	}
}

// P1.3: what is handed in stays as it was, also behind its end.
func TestBytesAreNotChanged(t *testing.T) {
	whole := some(32, 11)
	was := bytes.Clone(whole)
	b := whole[:16]
	var r crc.Register
	crc.Sum(b, b)
	r.Add(b, b)
	crc.Mark(b)
	crc.Holds(b)
	for at := -1; at <= len(b); at++ {
		crc.Turn(b, at, 0xFF)
	}
	if !bytes.Equal(whole, was) {
		t.Errorf("bytes were changed: %x, were %x", whole, was)
	}
}

// P1.3: answers are new memory, and nothing that was handed in is kept.
func TestBytesAreNotKept(t *testing.T) {
	b := []byte("123456789")
	var r crc.Register
	r.Add(b)
	marked := crc.Mark(b)
	turned := crc.Turn(b, 0, 1)
	same := crc.Turn(b, len(b), 1)
	clear(b)
	if r.Sum() != 0xE3069283 {
		t.Errorf("the register kept its bytes: %08x", r.Sum())
	}
	if !crc.Holds(marked) || string(turned) != "023456789" || string(same) != "123456789" {
		t.Errorf("an answer shares memory: %q %q %q", marked, turned, same)
	}
	clear(marked)
	clear(turned)
	clear(same)
	if !bytes.Equal(b, make([]byte, 9)) {
		t.Errorf("an answer shares memory: %x", b)
	}
}

// P1, P2: no arguments make a call panic, and the same calls have the same answers.
func TestSameCallsSameAnswers(t *testing.T) {
	places := []int{math.MinInt, -1, 0, 1, 3, 4, 255, 256, math.MaxInt}
	run := func() []byte {
		var out []byte
		for n := range 10 {
			b := some(n, uint32(n))
			out = append(out, crc.Mark(b)...)
			for _, at := range places {
				t := crc.Turn(b, at, byte(n))
				out = append(out, t...)
				if crc.Holds(t) {
					out = append(out, 1)
				}
			}
			var r crc.Register
			s := r.Add(b, nil, b).Sum()
			out = append(out, byte(s), byte(s>>8), byte(s>>16), byte(s>>24), byte(r.Len()))
		}
		return out
	}
	if !bytes.Equal(run(), run()) {
		t.Error("the same calls had other answers")
	}
}
