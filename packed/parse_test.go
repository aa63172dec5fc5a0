package packed_test

import (
	"bytes"
	"slices"
	"testing"

	"incipit/api"
	"incipit/packed"
)

// wantParsed: Parse answers what the slow one does.
func wantParsed(t *testing.T, b []byte) {
	t.Helper()
	m, size, want := parsed(b)
	a, rest, e := packed.Parse(b)
	if e != want {
		t.Fatalf("Parse(%x): %d, want %d", b, e, want)
	}
	if want != api.OK {
		if a != nil || rest != nil {
			t.Fatalf("Parse(%x) = %v %x beside %d", b, a, rest, e)
		}
		return
	}
	if !bytes.Equal(rest, b[size:]) {
		t.Fatalf("Parse(%x): the rest is %x, want %x", b, rest, b[size:])
	}
	agree(t, "Parse", a, m)
}

// P12.2: what Bytes answers is parsed, with the rest of it, at each width.
func TestParse(t *testing.T) {
	eachModel(func(m model) {
		a := made(t, m)
		for _, behind := range [][]byte{nil, {0}, {1}, {255}, {3, 3, 0xcd, 1}, make([]byte, 20)} {
			b := append(a.Bytes(), behind...)
			p, rest, e := packed.Parse(b)
			if e != api.OK || !packed.Same(p, a) || !bytes.Equal(rest, behind) {
				t.Fatalf("Parse(%x): %x %d", b, rest, e)
			}
			wantParsed(t, b)
		}
	})
}

// P12.2: what is parsed is an array like others: it can be set and added to.
func TestParsedIsLikeOthers(t *testing.T) {
	eachModel(func(m model) {
		a, _, e := packed.Parse(m.bytes())
		if e != api.OK {
			t.Fatal(e)
		}
		m = m.copied()
		for i := range m.l {
			a.Set(i, top(m.width)-m.l[i])
			m.set(i, top(m.width)-m.l[i])
		}
		a.Add(1, top(m.width))
		m.add(1, top(m.width))
		agree(t, "Parse, set and added to", a, m)
	})
}

// P12.2: the errors, in the order in which they are met.
func TestParseNamesErrors(t *testing.T) {
	much := bytes.Repeat([]byte{255}, 12)
	for i, c := range []struct {
		b    []byte
		want api.Errno
	}{
		{nil, api.ErrEnd},
		{[]byte{}, api.ErrEnd},
		// There is no such width, ahead of the count that is missing or wrong.
		{[]byte{0}, api.ErrForm},
		{[]byte{32}, api.ErrForm},
		{[]byte{255}, api.ErrForm},
		{[]byte{0, 0}, api.ErrForm},
		{[]byte{32, 0}, api.ErrForm},
		{[]byte{33, 1, 0, 0, 0, 0, 0}, api.ErrForm},
		{[]byte{64, 1, 0, 0, 0, 0, 0, 0, 0, 0}, api.ErrForm},
		{[]byte{128, 128}, api.ErrForm},
		{[]byte{255, 128, 0}, api.ErrForm},
		{[]byte{0, 1}, api.ErrForm},
		// The count is missing, or cut.
		{[]byte{1}, api.ErrEnd},
		{[]byte{31}, api.ErrEnd},
		{[]byte{3, 128}, api.ErrEnd},
		{[]byte{3, 255, 255}, api.ErrEnd},
		{[]byte{3, 255, 255, 255}, api.ErrEnd},
		{append([]byte{3}, much[:8]...), api.ErrEnd},
		// It isn't a right number, ahead of the bits that are missing.
		{[]byte{3, 128, 0}, api.ErrForm},
		{[]byte{3, 131, 0}, api.ErrForm},
		{[]byte{3, 131, 0, 0xcd, 1}, api.ErrForm},
		{[]byte{3, 131, 128, 0, 0xcd, 1}, api.ErrForm},
		{append([]byte{3}, much...), api.ErrForm},
		{append([]byte{3}, append(slices.Clone(much[:9]), 1)...), api.ErrForm},
		// It is above 65536, ahead of the bits that are missing.
		{[]byte{1, 129, 128, 4}, api.ErrForm},
		{append([]byte{1, 129, 128, 4}, make([]byte, 9000)...), api.ErrForm},
		{append([]byte{1}, append(slices.Clone(much[:8]), 127)...), api.ErrForm},
		{[]byte{1, 128, 128, 8}, api.ErrForm},
		{[]byte{1, 255, 255, 127}, api.ErrForm},
		// It is right, and bits are missing.
		{[]byte{1, 128, 128, 4}, api.ErrEnd},
		{append([]byte{1, 128, 128, 4}, make([]byte, 8191)...), api.ErrEnd},
		{append([]byte{1, 128, 128, 4}, make([]byte, 8192)...), api.OK},
		{[]byte{3, 3}, api.ErrEnd},
		{[]byte{3, 3, 0xcd}, api.ErrEnd},
		{[]byte{3, 1}, api.ErrEnd},
		{[]byte{31, 1, 0, 0, 0}, api.ErrEnd},
		{[]byte{31, 1, 255, 255, 255}, api.ErrEnd},
		// A bit at the end isn't 0.
		{[]byte{3, 3, 0xcd, 3}, api.ErrForm},
		{[]byte{3, 3, 0xcd, 0x81}, api.ErrForm},
		{[]byte{3, 1, 8}, api.ErrForm},
		{[]byte{3, 1, 15}, api.ErrForm},
		{[]byte{3, 1, 128}, api.ErrForm},
		{[]byte{31, 1, 0, 0, 0, 128}, api.ErrForm},
		{[]byte{1, 1, 2}, api.ErrForm},
		{[]byte{1, 7, 128}, api.ErrForm},
		// All is right.
		{[]byte{3, 0}, api.OK},
		{[]byte{1, 0}, api.OK},
		{[]byte{31, 0, 255}, api.OK},
		{[]byte{3, 1, 7}, api.OK},
		{[]byte{3, 1, 7, 128}, api.OK},
		{[]byte{1, 8, 255}, api.OK},
		{[]byte{31, 1, 255, 255, 255, 127}, api.OK},
	} {
		a, rest, e := packed.Parse(c.b)
		if e != c.want || (a != nil) != (e == api.OK) || e != api.OK && rest != nil {
			t.Errorf("case %d: Parse = %v, %x, %d, want %d", i, a, rest, e, c.want)
		}
	}
}

// P12.2: each width's byte, and each that is none.
func TestParseOfEachWidth(t *testing.T) {
	for width := range 256 {
		for _, behind := range [][]byte{nil, {0}, {1}, {1, 0}, {1, 0, 0, 0, 0}, {128}, {128, 0}, {0, 7}} {
			wantParsed(t, append([]byte{byte(width)}, behind...))
		}
	}
}

// P12.2: of bytes that are cut anywhere some are missing.
func TestParseOfCutBytes(t *testing.T) {
	eachModel(func(m model) {
		b := m.bytes()
		for n := range b {
			if a, rest, e := packed.Parse(b[:n]); a != nil || rest != nil || e != api.ErrEnd {
				t.Fatalf("Parse of the first %d of %x: %v %x %d", n, b, a, rest, e)
			}
		}
	})
}

// P12.2: with each bit turned, one by one, Parse answers what the slow one does: at the end none may be 1.
func TestParseOfTurnedBits(t *testing.T) {
	for width := 1; width <= 31; width++ {
		for _, m := range models(width) {
			if len(m.l) > 33 {
				continue
			}
			b := append(m.bytes(), 0xA5)
			for at := range len(b) * 8 {
				b[at/8] ^= 1 << (at % 8)
				wantParsed(t, b)
				b[at/8] ^= 1 << (at % 8)
			}
			end := len(m.bits())
			for at := end; at%8 != 0; at++ {
				b := m.bytes()
				b[len(b)-1] |= 1 << (at % 8)
				if a, rest, e := packed.Parse(b); a != nil || rest != nil || e != api.ErrForm {
					t.Fatalf("Parse(%x), whose bit %d isn't 0: %v %x %d", b, at, a, rest, e)
				}
			}
		}
	}
}

// P1, P12.2: bytes of all kinds are an array's, or it is told what is wrong.
func TestParseOfAnyBytes(t *testing.T) {
	d := dice(5)
	for n := range 20000 {
		b := make([]byte, d.below(12))
		for i := range b {
			b[i] = byte(d.below(256))
		}
		if len(b) > 1 && n%4 != 0 {
			b[0], b[1] = byte(d.below(34)), byte(d.below(12))
		}
		if len(b) > 2 && n%3 == 0 {
			b[len(b)-1] = byte(1 << d.below(9))
		}
		wantParsed(t, b)
	}
}

// P12.2: 65536 numbers are parsed at each width, and what is behind them is the rest.
func TestParseOfMany(t *testing.T) {
	for width := 1; width <= 31; width++ {
		d := dice(width)
		m := model{width, d.list(width, 65536)}
		b := append(m.bytes(), 1, 2, 3)
		a, rest, e := packed.Parse(b)
		if e != api.OK || !bytes.Equal(rest, []byte{1, 2, 3}) || !slices.Equal(a.All(), m.l) {
			t.Fatalf("width %d: %x %d", width, rest, e)
		}
		if !bytes.Equal(a.Bytes(), b[:len(b)-3]) {
			t.Fatalf("width %d: other bytes", width)
		}
		if _, _, e := packed.Parse(b[:len(b)-4]); e != api.ErrEnd {
			t.Fatalf("width %d: cut: %d", width, e)
		}
	}
}
