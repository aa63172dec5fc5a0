package flip_test

import (
	"bytes"
	"slices"
	"testing"

	"incipit/api"
	"incipit/crc"
	"incipit/device"
	"incipit/flip"
	"incipit/frame"
)

// none: no superblock.
var none = flip.Super{}

// low: the number's so many lowest bytes, the lowest first.
func low(n, size int) []byte {
	var b []byte
	for range size {
		b = append(b, byte(n))
		n >>= 8
	}
	return b
}

// bodyOf: a superblock's body, put together in the order of the chapter's words.
func bodyOf(s flip.Super) []byte {
	return slices.Concat(low(s.Root, 2), low(s.Shadow, 2), low(s.Stamp, 4))
}

// framed: a frame's bytes, be it a superblock's or not.
func framed(t *testing.T, f frame.Frame) []byte {
	t.Helper()
	b, e := frame.Encode(f)
	if e != api.OK {
		t.Fatalf("%v is no frame: %d", f, e)
	}
	return b
}

// odd: is it? Of numbers below 0 too.
func odd(n int) bool { return n%2 != 0 }

// pageOf: the page of an epoch.
func pageOf(epoch int) int {
	if odd(epoch) {
		return 1
	}
	return 0
}

// page: the page of a superblock, be it right or not.
func page(t *testing.T, s flip.Super) []byte {
	t.Helper()
	return framed(t, frame.Frame{Kind: 1, Epoch: s.Epoch, Page: pageOf(s.Epoch), Body: bodyOf(s)})
}

// leads: may a superblock lead to this page?
func leads(no int) bool { return no == 0 || no >= 2 && no <= 2047 }

// right: is it, each number asked by itself?
func right(s flip.Super) bool {
	return s.Epoch >= 1 && s.Epoch <= 4294967295 && leads(s.Root) && leads(s.Shadow) && s.Stamp >= 0 && s.Stamp <= 2147483647
}

// decoded: what these bytes are on that page.
func decoded(b []byte, no int) (flip.Super, api.Errno) {
	if no != 0 && no != 1 {
		return none, api.ErrRange
	}
	f, e := frame.Decode(b)
	switch {
	case e != api.OK:
		return none, e
	case f.Page != no:
		return none, api.ErrSum
	case f.Kind != 1:
		return none, api.ErrKind
	case len(f.Body) != 8 || odd(f.Epoch) != (no == 1):
		return none, api.ErrForm
	}
	c := func(i int) int { return int(f.Body[i]) }
	s := flip.Super{Epoch: f.Epoch, Root: c(0) + 256*c(1), Shadow: c(2) + 256*c(3), Stamp: c(4) + 256*c(5) + 65536*c(6) + 16777216*c(7)}
	if !right(s) {
		return none, api.ErrForm
	}
	return s, api.OK
}

// counts: the superblock that counts of these two pages, and is there one?
func counts(zero, one []byte) (flip.Super, bool) {
	a, e := decoded(zero, 0)
	b, f := decoded(one, 1)
	switch {
	case e != api.OK && f != api.OK:
		return none, false
	case f != api.OK || e == api.OK && a.Epoch >= b.Epoch:
		return a, true
	}
	return b, true
}

// loaded: a device of these two pages, and of two more.
func loaded(t *testing.T, zero, one []byte) *device.Device {
	t.Helper()
	d, e := device.Load(slices.Concat(zero, one, bytes.Repeat([]byte{7}, 512)))
	if e != api.OK {
		t.Fatal(e)
	}
	return d
}

// made: a new device.
func made(t *testing.T, pages int) *device.Device {
	t.Helper()
	d, e := device.New(pages)
	if e != api.OK {
		t.Fatal(e)
	}
	return d
}

// off: a new device without power.
func off(t *testing.T, pages int) *device.Device {
	d := made(t, pages)
	d.Crash()
	return d
}

// armed: a new device of four pages with so many writes and syncs left.
func armed(t *testing.T, left int) *device.Device {
	d := made(t, 4)
	d.Arm(left)
	return d
}

func wantSuper(t *testing.T, what string, got flip.Super, e api.Errno, want flip.Super) {
	t.Helper()
	if e != api.OK || got != want {
		t.Errorf("%s = %v %d, want %v", what, got, e, want)
	}
}

func wantError(t *testing.T, what string, got flip.Super, e, want api.Errno) {
	t.Helper()
	if e != want || got != none {
		t.Errorf("%s = %v %d, want nothing and %d", what, got, e, want)
	}
}

// wantFound: what counts of a device, or that nothing does.
func wantFound(t *testing.T, what string, d *device.Device, want flip.Super, there bool) {
	t.Helper()
	s, e := flip.Find(d)
	if there {
		wantSuper(t, what, s, e, want)
	} else {
		wantError(t, what, s, e, api.ErrSum)
	}
}

// laid: a page's laid bytes.
func laid(d *device.Device, no int) []byte { return d.Image()[256*no:][:256] }

// torn: the first part bytes of new over old.
func torn(old, new []byte, part int) []byte { return slices.Concat(new[:part], old[part:]) }

// resealed: a page with a byte turned and its sum right again.
func resealed(b []byte, at int, by byte) []byte { return crc.Mark(crc.Turn(b, at, by)[:252]) }
