package rank_test

import (
	"bytes"
	"testing"

	"incipit/api"
	"incipit/rank"
	"incipit/varint"
)

// wantParsed: Parse answers what the model's does.
func wantParsed(t *testing.T, b []byte) {
	t.Helper()
	m, left, want := parsed(b)
	r, rest, e := rank.Parse(b)
	if e != want || !bytes.Equal(rest, left) {
		t.Fatalf("Parse(%x): %x %d, want %x %d", b, rest, e, left, want)
	}
	if want == api.OK {
		agree(t, "Parse", r, m)
	} else if r != nil || rest != nil {
		t.Fatalf("Parse(%x): %v %x beside %d", b, r, rest, e)
	}
}

// P13.1: what Bytes answers is parsed, and what is behind it is the rest.
func TestParse(t *testing.T) {
	check := func(m model) {
		for _, behind := range [][]byte{nil, {0}, {1}, {255}, {3, 5}, make([]byte, 70)} {
			r, rest, e := rank.Parse(append(made(t, m).Bytes(), behind...))
			if e != api.OK || !bytes.Equal(rest, behind) || !rank.Same(r, made(t, m)) {
				t.Fatalf("Parse of %v's bytes and %x: %x %d", m, behind, rest, e)
			}
		}
		wantParsed(t, m.bytes())
	}
	eachSmall(check)
	eachModel(check)
}

// P13.1: bytes as the chapter's words tell them.
func TestBytes(t *testing.T) {
	for _, c := range []struct {
		n    int
		ones []int
		want []byte
	}{
		{0, nil, []byte{0}},
		{1, nil, []byte{1, 0}},
		{1, []int{0}, []byte{1, 1}},
		{7, []int{6}, []byte{7, 64}},
		{8, []int{7}, []byte{8, 128}},
		{9, []int{8, 1}, []byte{9, 2, 1}},
		{10, []int{2, 3, 9}, []byte{10, 0x0c, 2}},
		{128, []int{127}, []byte{128, 1, 15: 0, 17: 128}},
	} {
		r, e := rank.Of(c.n, c.ones...)
		if e != api.OK || !bytes.Equal(r.Bytes(), c.want) {
			t.Errorf("of %d %v: %x %d, want %x", c.n, c.ones, r.Bytes(), e, c.want)
		}
	}
}

// P13.1: the errors, in the order in which they are met.
func TestParseNamesErrors(t *testing.T) {
	full := bytes.Repeat([]byte{255}, 8193)
	for i, c := range []struct {
		b    []byte
		want api.Errno
	}{
		// The count is missing, cut, not shortest, or too great for a number.
		{nil, api.ErrEnd},
		{[]byte{}, api.ErrEnd},
		{[]byte{128}, api.ErrEnd},
		{[]byte{255, 255, 255}, api.ErrEnd},
		{[]byte{128, 0}, api.ErrForm},
		{[]byte{129, 0, 1}, api.ErrForm},
		{[]byte{128, 128, 0}, api.ErrForm},
		{full[:11], api.ErrForm},
		{append(bytes.Clone(full[:9]), 1), api.ErrForm},
		// It is above 65536, ahead of the bits that are missing or there.
		{varint.Put(65537), api.ErrForm},
		{[]byte{129, 128, 4}, api.ErrForm},
		{append(varint.Put(65537), full...), api.ErrForm},
		{varint.Put(1 << 62), api.ErrForm},
		{varint.Put(1<<63 - 1), api.ErrForm},
		// It is right, and bits are missing.
		{varint.Put(65536), api.ErrEnd},
		{append(varint.Put(65536), full[:8191]...), api.ErrEnd},
		{[]byte{1}, api.ErrEnd},
		{[]byte{8}, api.ErrEnd},
		{[]byte{9, 1}, api.ErrEnd},
		{[]byte{9, 255}, api.ErrEnd},
		{[]byte{17, 255, 255}, api.ErrEnd},
		// A bit at the end isn't 0.
		{[]byte{1, 2}, api.ErrForm},
		{[]byte{1, 128}, api.ErrForm},
		{[]byte{3, 8}, api.ErrForm},
		{[]byte{7, 128}, api.ErrForm},
		{[]byte{7, 255, 0}, api.ErrForm},
		{[]byte{9, 0, 2}, api.ErrForm},
		{append(varint.Put(65535), full[:8192]...), api.ErrForm},
		// All is right.
		{[]byte{0}, api.OK},
		{[]byte{0, 255}, api.OK},
		{[]byte{1, 1}, api.OK},
		{[]byte{7, 127}, api.OK},
		{[]byte{8, 255}, api.OK},
		{[]byte{9, 255, 1}, api.OK},
		{[]byte{9, 255, 1, 2}, api.OK},
		{append(varint.Put(65536), full[:8192]...), api.OK},
		{append(varint.Put(65536), full...), api.OK},
	} {
		r, rest, e := rank.Parse(c.b)
		if e != c.want || (r != nil) != (e == api.OK) || e != api.OK && rest != nil {
			t.Errorf("case %d: Parse = %v, %x, %d, want %d", i, r, rest, e, c.want)
		}
		wantParsed(t, c.b)
	}
}

// P13.1: of bytes that are cut anywhere some are missing.
func TestParseOfCutBytes(t *testing.T) {
	eachModel(func(m model) {
		b := m.bytes()
		for n := range b {
			if r, rest, e := rank.Parse(b[:n]); r != nil || rest != nil || e != api.ErrEnd {
				t.Fatalf("Parse of the first %d of %x: %v %x %d", n, b, r, rest, e)
			}
		}
	})
}

// P13.1: each bit behind the last one must be 0, at every length.
func TestParseOfBitsAtTheEnd(t *testing.T) {
	for n := range 1100 {
		for _, bit := range []bool{true, false} {
			m := drawn(n, func(int) bool { return bit })
			for low := n % 8; low > 0 && low < 8; low++ {
				b := m.bytes()
				b[len(b)-1] |= 1 << low
				for _, behind := range []int{0, 1, 9} {
					if r, rest, e := rank.Parse(append(b, make([]byte, behind)...)); r != nil || rest != nil || e != api.ErrForm {
						t.Fatalf("Parse of %d bits and a 1 at %d of the last byte: %v %x %d", n, low, r, rest, e)
					}
				}
			}
		}
	}
}

// P13.1: with each bit turned, one by one, Parse answers what the model's does.
func TestParseOfTurnedBits(t *testing.T) {
	for _, n := range []int{0, 1, 2, 7, 8, 9, 63, 64, 65, 130} {
		for _, shape := range shapes(n) {
			b := append(drawn(n, shape).bytes(), 0xA5)
			for i := range 8 * len(b) {
				b[i/8] ^= 1 << (i % 8)
				wantParsed(t, b)
				b[i/8] ^= 1 << (i % 8)
			}
		}
	}
}

// P1, P13.1: bytes of all kinds are a row's, or it is told what is wrong.
func TestParseOfAnyBytes(t *testing.T) {
	var seed uint32 = 5
	for n := range 20000 {
		b := make([]byte, next(&seed, 12))
		for i := range b {
			b[i] = byte(next(&seed, 256))
		}
		if len(b) > 0 && n%4 != 0 {
			b[0] = byte(next(&seed, 100))
		}
		if len(b) > 1 && n%3 == 0 {
			b[len(b)-1] = byte(1 << next(&seed, 9))
		}
		wantParsed(t, b)
	}
}
