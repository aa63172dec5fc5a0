package frame_test

import (
	"bytes"
	"math"
	"slices"
	"testing"

	"incipit/api"
	"incipit/crc"
	"incipit/device"
	"incipit/frame"
)

// plain: a frame that is right, and that edges are tried on.
func plain() frame.Frame {
	return frame.Frame{Kind: 3, Epoch: 70000, Page: 2, Body: []byte("hello")}
}

// with: a plain frame, changed.
func with(change func(*frame.Frame)) frame.Frame {
	f := plain()
	change(&f)
	return f
}

// encoded: the bytes of a frame that is right.
func encoded(t *testing.T, f frame.Frame) []byte {
	t.Helper()
	b, e := frame.Encode(f)
	if e != api.OK || len(b) != api.PageSize {
		t.Fatalf("Encode(%v) = %d bytes, %d", f, len(b), e)
	}
	return b
}

// made: a new device.
func made(t *testing.T, pages int) *device.Device {
	t.Helper()
	d, e := device.New(pages)
	if e != api.OK {
		t.Fatal(e)
	}
	return d
}

func wantFrame(t *testing.T, what string, got frame.Frame, e api.Errno, want frame.Frame) {
	t.Helper()
	if e != api.OK || !same(got, want) {
		t.Errorf("%s = %v %d, want %v", what, got, e, want)
	}
}

func wantError(t *testing.T, what string, got frame.Frame, e, want api.Errno) {
	t.Helper()
	if e != want || !isZero(got) || got.Body != nil {
		t.Errorf("%s = %v %d, want nothing and %d", what, got, e, want)
	}
}

func TestConstants(t *testing.T) {
	if frame.Room != 238 || frame.Kinds != 9 {
		t.Errorf("Room %d, Kinds %d", frame.Room, frame.Kinds)
	}
}

// P4.1: what is wrong with a frame, the error named first ahead of the others.
func TestCheckAndEncode(t *testing.T) {
	kind := func(n int) frame.Frame { return with(func(f *frame.Frame) { f.Kind = n }) }
	epoch := func(n int) frame.Frame { return with(func(f *frame.Frame) { f.Epoch = n }) }
	at := func(n int) frame.Frame { return with(func(f *frame.Frame) { f.Page = n }) }
	body := func(b []byte) frame.Frame { return with(func(f *frame.Frame) { f.Body = b }) }
	long := make([]byte, 239)
	for i, c := range []struct {
		f    frame.Frame
		want api.Errno
	}{
		{plain(), api.OK},
		{kind(math.MinInt), api.ErrKind}, {kind(-1), api.ErrKind}, {kind(0), api.ErrKind},
		{kind(1), api.OK}, {kind(9), api.OK},
		{kind(10), api.ErrKind}, {kind(257), api.ErrKind}, {kind(math.MaxInt), api.ErrKind},
		{epoch(math.MinInt), api.ErrRange}, {epoch(-1), api.ErrRange}, {epoch(0), api.OK},
		{epoch(1<<32 - 1), api.OK}, {epoch(1 << 32), api.ErrRange}, {epoch(math.MaxInt), api.ErrRange},
		{at(math.MinInt), api.ErrRange}, {at(-1), api.ErrRange}, {at(0), api.OK},
		{at(2047), api.OK}, {at(2048), api.ErrRange}, {at(65536), api.ErrRange}, {at(math.MaxInt), api.ErrRange},
		{body(nil), api.OK}, {body([]byte{}), api.OK}, {body(bodyOf(1)), api.OK}, {body(bodyOf(238)), api.OK},
		{body(bodyOf(239)), api.ErrLong}, {body(bodyOf(65536)), api.ErrLong},
		// Several at once.
		{frame.Frame{}, api.ErrKind},
		{frame.Frame{Kind: 0, Epoch: -1, Page: -1, Body: long}, api.ErrKind},
		{frame.Frame{Kind: 10, Body: long}, api.ErrKind},
		{frame.Frame{Kind: 1, Epoch: -1, Body: long}, api.ErrRange},
		{frame.Frame{Kind: 1, Page: 2048, Body: long}, api.ErrRange},
		{frame.Frame{Kind: 1, Epoch: 1 << 32, Page: -1}, api.ErrRange},
	} {
		if e := frame.Check(c.f); e != c.want {
			t.Errorf("%d: Check = %d, want %d", i, e, c.want)
		}
		b, e := frame.Encode(c.f)
		if e != c.want || e != api.OK && b != nil {
			t.Errorf("%d: Encode = %d bytes, %d, want %d", i, len(b), e, c.want)
		}
		if e == api.OK && !bytes.Equal(b, page(c.f)) {
			t.Errorf("%d: Encode = %x, want %x", i, b, page(c.f))
		}
	}
}

// P4.1: the chapter's example.
func TestExample(t *testing.T) {
	b := encoded(t, frame.Frame{Kind: 2, Epoch: 1, Page: 5, Body: []byte("ab")})
	want := []byte{0xf1, 2, 1, 0, 0, 0, 5, 0, 2, 0, 'a', 'b'}
	want = append(want, make([]byte, 236)...)
	want = append(want, 1, 0, 0, 0)
	if !bytes.Equal(b, crc.Mark(want)) {
		t.Errorf("Encode = %x, want %x and its sum", b, want)
	}
}

// P4.1, P4.3: what is encoded is as the chapter says it, and is decoded as it was.
func TestEncodedIsDecoded(t *testing.T) {
	for _, f := range manyFrames() {
		b := encoded(t, f)
		if !bytes.Equal(b, page(f)) {
			t.Fatalf("Encode(%v) = %x, want %x", f, b, page(f))
		}
		g, e := frame.Decode(b)
		wantFrame(t, "Decode", g, e, f)
		if !frame.Same(f, g) {
			t.Errorf("Same(%v, %v) = false", f, g)
		}
	}
}

// P4.1: only 256 bytes are asked for their sum.
func TestDecodeLengths(t *testing.T) {
	b := encoded(t, plain())
	for _, wrong := range [][]byte{nil, {}, b[:1], b[:10], b[:252], b[:255], b[1:], append(slices.Clone(b), 0), crc.Mark(b), append(b[:256:256], b...)} {
		f, e := frame.Decode(wrong)
		wantError(t, "Decode", f, e, api.ErrLong)
		f, e = frame.Open(wrong, 2, 3)
		wantError(t, "Open", f, e, api.ErrLong)
	}
}

// P4.1: bytes whose sum is another one; that is named ahead of a wrong form.
func TestDecodeSums(t *testing.T) {
	b := encoded(t, plain())
	form := crc.Turn(b, 0, 1)
	for i, wrong := range [][]byte{make([]byte, 256), bytes.Repeat([]byte{0xF1}, 256), crc.Turn(b, 255, 128), crc.Turn(b, 252, 1), crc.Turn(b, 10, 32), form} {
		f, e := frame.Decode(wrong)
		wantError(t, "Decode", f, e, api.ErrSum)
		f, e = frame.Open(wrong, 7, 8)
		if wantError(t, "Open", f, e, api.ErrSum); t.Failed() {
			t.Fatal(i)
		}
	}
}

// P4.1: bytes whose sum is right, and that are still no frame's.
func TestDecodeForms(t *testing.T) {
	good := encoded(t, plain())
	put := func(at int, l ...byte) []byte {
		b := slices.Clone(good)
		copy(b[at:], l)
		return crc.Mark(b[:252])
	}
	full := encoded(t, with(func(f *frame.Frame) { f.Body = bodyOf(238) }))
	longer := func(low, high byte) []byte {
		b := slices.Clone(full)
		b[8], b[9] = low, high
		return crc.Mark(b[:252])
	}
	for name, wrong := range map[string][]byte{
		"first byte 0":        put(0, 0),
		"first byte F0":       put(0, 0xF0),
		"first byte F2":       put(0, 0xF2),
		"kind 0":              put(1, 0),
		"kind 10":             put(1, 10),
		"kind 255":            put(1, 255),
		"page 2048":           put(6, 0, 8),
		"page 65535":          put(6, 255, 255),
		"length 239":          put(8, 239),
		"length 239, full":    longer(239, 0),
		"length 242, full":    longer(242, 0),
		"length 246":          longer(246, 0),
		"length 247":          longer(247, 0),
		"length 255":          longer(255, 0),
		"length 256":          longer(0, 1),
		"length 256+5":        put(8, 5, 1),
		"length 65535":        longer(255, 255),
		"a shorter length":    put(8, 4),
		"behind the body":     put(15, 1),
		"ahead of the epoch":  put(247, 1),
		"epochs' first bytes": put(248, good[248]+1),
		"epochs' last bytes":  put(251, good[251]+1),
		"no second epoch":     put(248, 0, 0, 0, 0),
		"another first epoch": put(2, good[2]+1),
		"first epoch higher":  put(5, good[5]+1),
		"all 0":               crc.Mark(make([]byte, 252)),
	} {
		if !crc.Holds(wrong) {
			t.Fatalf("%s: the sum is wrong", name)
		}
		f, e := frame.Decode(wrong)
		wantError(t, name+": Decode", f, e, api.ErrForm)
		f, e = frame.Open(wrong, 9, 9)
		wantError(t, name+": Open", f, e, api.ErrForm)
	}
}

// P4.1, P4.3: every byte's every value with a right sum is answered as the model answers it.
func TestDecodeAsTheModel(t *testing.T) {
	for _, f := range []frame.Frame{plain(), {Kind: 9, Epoch: 1<<32 - 1, Page: 2047, Body: bodyOf(238)}, {Kind: 1}} {
		good := encoded(t, f)
		for at := range 252 {
			for by := range 256 {
				if at >= 16 && at < 240 && by%37 != 1 {
					continue
				}
				b := crc.Mark(crc.Turn(good, at, byte(by))[:252])
				want, wantE := decoded(b)
				got, e := frame.Decode(b)
				if e != wantE || !same(got, want) {
					t.Fatalf("byte %d turned by %d: Decode = %v %d, want %v %d", at, by, got, e, want, wantE)
				}
				// Nothing else is decoded than what is encoded.
				if e == api.OK && !bytes.Equal(encoded(t, got), b) {
					t.Fatalf("byte %d turned by %d: decoded, but encoded otherwise", at, by)
				}
			}
		}
	}
}

// P4.3: a page of which one byte is turned is no frame.
func TestEveryByteTurned(t *testing.T) {
	b := encoded(t, plain())
	for at := range b {
		for by := 1; by < 256; by++ {
			f, e := frame.Decode(crc.Turn(b, at, byte(by)))
			if e != api.ErrSum || !isZero(f) {
				t.Fatalf("byte %d turned by %d: %v %d", at, by, f, e)
			}
		}
	}
}

// P4.3: a page of which a beginning is of one epoch and the rest of another one is no frame, be its sum right.
func TestTwoEpochs(t *testing.T) {
	at := func(epoch, size int) []byte {
		return encoded(t, with(func(f *frame.Frame) { f.Epoch, f.Body = epoch, bodyOf(size) }))
	}
	for _, c := range [][2][]byte{
		{at(1, 5), at(2, 5)}, {at(1, 5), at(2, 9)}, {at(1, 238), at(256, 238)},
		{at(0, 0), at(1<<32-1, 0)}, {at(1<<24, 7), at(1<<25, 7)}, {at(65535, 5), at(65536, 5)},
	} {
		for cut := range 257 {
			torn := slices.Concat(c[0][:cut], c[1][cut:])
			if bytes.Equal(torn, c[0]) || bytes.Equal(torn, c[1]) {
				continue
			}
			if f, e := frame.Decode(torn); e == api.OK {
				t.Fatalf("cut at %d: %v", cut, f)
			}
			if cut < 6 || cut > 248 {
				continue
			}
			f, e := frame.Decode(crc.Mark(torn[:252]))
			wantError(t, "Decode of a torn page", f, e, api.ErrForm)
		}
	}
}

// P4.1: Same tells frames apart by each field alone.
func TestSame(t *testing.T) {
	f := plain()
	for i, c := range []struct {
		a, b frame.Frame
		want bool
	}{
		{f, f, true},
		{f, plain(), true},
		{frame.Frame{}, frame.Frame{}, true},
		{f, with(func(g *frame.Frame) { g.Kind++ }), false},
		{f, with(func(g *frame.Frame) { g.Epoch++ }), false},
		{f, with(func(g *frame.Frame) { g.Page++ }), false},
		{f, with(func(g *frame.Frame) { g.Body = []byte("hellp") }), false},
		{f, with(func(g *frame.Frame) { g.Body = []byte("hell") }), false},
		{f, with(func(g *frame.Frame) { g.Body = []byte("hello\x00") }), false},
		{f, with(func(g *frame.Frame) { g.Body = nil }), false},
		{frame.Frame{Kind: 1}, frame.Frame{Kind: 1, Body: []byte{}}, true},
		{frame.Frame{Kind: 1}, frame.Frame{Kind: 1, Body: []byte{0}}, false},
		{frame.Frame{Kind: -1, Epoch: -1, Page: -1}, frame.Frame{Kind: -1, Epoch: -1, Page: -1}, true},
		{frame.Frame{Kind: 1, Epoch: 2}, frame.Frame{Kind: 2, Epoch: 1}, false},
		{frame.Frame{Epoch: 1, Page: 2}, frame.Frame{Epoch: 2, Page: 1}, false},
	} {
		if frame.Same(c.a, c.b) != c.want || frame.Same(c.b, c.a) != c.want {
			t.Errorf("%d: Same(%v, %v) = %v", i, c.a, c.b, !c.want)
		}
	}
}

// kindsTold: kinds as they may be told of a frame of kind 3.
var kindsTold = []struct {
	kinds []int
	fits  bool
}{
	{nil, true}, {[]int{}, true},
	{[]int{3}, true}, {[]int{1, 2, 3}, true}, {[]int{3, 1}, true}, {[]int{1, 3, 2}, true}, {[]int{3, 3}, true}, {[]int{0, 10, 3}, true},
	{[]int{1}, false}, {[]int{1, 2, 4, 5, 6, 7, 8, 9}, false}, {[]int{0}, false}, {[]int{-3}, false}, {[]int{259}, false}, {[]int{10, math.MaxInt}, false},
}

// P4.2: Open asks for the page, then for the kind.
func TestOpen(t *testing.T) {
	b := encoded(t, plain())
	for _, c := range kindsTold {
		f, e := frame.Open(b, 2, c.kinds...)
		if c.fits {
			wantFrame(t, "Open", f, e, plain())
		} else {
			wantError(t, "Open", f, e, api.ErrKind)
		}
		for _, page := range []int{math.MinInt, -1, 0, 1, 3, 2048, 65538, math.MaxInt} {
			f, e := frame.Open(b, page, c.kinds...)
			wantError(t, "Open of another page", f, e, api.ErrSum)
		}
	}
}

// P4.2: Open of all sorts of pages answers as the model.
func TestOpenAsTheModel(t *testing.T) {
	good := encoded(t, plain())
	for at := range 12 {
		for by := range 256 {
			b := crc.Mark(crc.Turn(good, at, byte(by))[:252])
			for _, page := range []int{2, 3, 258} {
				for _, kinds := range [][]int{nil, {3}, {1, 3}, {1, 2}} {
					want, wantE := opened(b, page, kinds)
					if got, e := frame.Open(b, page, kinds...); e != wantE || !same(got, want) {
						t.Fatalf("byte %d turned by %d: Open(%d, %v) = %v %d, want %v %d", at, by, page, kinds, got, e, want, wantE)
					}
				}
			}
		}
	}
}

// P4.2: what is written to a device is read of it, waiting and laid.
func TestReadAndWrite(t *testing.T) {
	d := made(t, 2048)
	frames := []frame.Frame{plain(), {Kind: 9, Epoch: 1<<32 - 1, Page: 2047, Body: bodyOf(238)}, {Kind: 1}}
	for range 2 {
		for _, f := range frames {
			if e := frame.Write(d, f); e != api.OK {
				t.Fatalf("Write(%v) = %d", f, e)
			}
			g, e := frame.Read(d, f.Page)
			wantFrame(t, "Read", g, e, f)
			if b, _ := d.Read(f.Page); !bytes.Equal(b, page(f)) {
				t.Errorf("page %d is %x, want %x", f.Page, b, page(f))
			}
		}
		d.Sync()
	}
	for _, c := range kindsTold {
		f, e := frame.Read(d, 2, c.kinds...)
		if c.fits {
			wantFrame(t, "Read", f, e, plain())
		} else {
			wantError(t, "Read", f, e, api.ErrKind)
		}
	}
}

// P4.2: a page that holds no frame, or another page's.
func TestReadOfOtherBytes(t *testing.T) {
	b := encoded(t, plain())
	for _, c := range []struct {
		bytes []byte
		want  api.Errno
	}{
		{make([]byte, 256), api.ErrSum},
		{crc.Turn(b, 20, 1), api.ErrSum},
		{crc.Mark(crc.Turn(b, 0, 1)[:252]), api.ErrForm},
		{b, api.ErrSum}, // it is page 2's; and of another kind, too
	} {
		d := made(t, 4)
		d.Write(3, c.bytes)
		f, e := frame.Read(d, 3, 9)
		wantError(t, "Read", f, e, c.want)
	}
}

// P4.2: the device's errors; Check's ahead of them.
func TestDeviceErrors(t *testing.T) {
	small := func() *device.Device { return made(t, 2) }
	off := small()
	off.Crash()
	armed := small()
	armed.Arm(0)
	on0 := with(func(f *frame.Frame) { f.Page = 0 })
	for i, c := range []struct {
		d           *device.Device
		f           frame.Frame
		read, write api.Errno
	}{
		{small(), plain(), api.ErrRange, api.ErrRange},
		{off, plain(), api.ErrDown, api.ErrDown},
		{off, on0, api.ErrDown, api.ErrDown},
		{armed, on0, api.ErrSum, api.ErrDown},
		{nil, on0, api.ErrDown, api.ErrDown},
		{nil, with(func(f *frame.Frame) { f.Kind = 0 }), api.ErrDown, api.ErrKind},
		{off, with(func(f *frame.Frame) { f.Kind = 10 }), api.ErrDown, api.ErrKind},
		{off, with(func(f *frame.Frame) { f.Epoch = -1 }), api.ErrDown, api.ErrRange},
		{off, with(func(f *frame.Frame) { f.Page = -1 }), api.ErrDown, api.ErrRange},
		{off, with(func(f *frame.Frame) { f.Body = bodyOf(239) }), api.ErrDown, api.ErrLong},
		{small(), with(func(f *frame.Frame) { f.Page, f.Body = 2, bodyOf(239) }), api.ErrRange, api.ErrLong},
	} {
		f, e := frame.Read(c.d, c.f.Page, 9)
		if wantError(t, "Read", f, e, c.read); frame.Write(c.d, c.f) != c.write {
			t.Errorf("%d: Write isn't %d", i, c.write)
		}
	}
	if armed.On() {
		t.Error("a write with none left: the power is still on")
	}
}

// P4.2: a frame that is wrong isn't written, and spends nothing of what is left.
func TestWrongFramesSpendNothing(t *testing.T) {
	d := made(t, 2)
	d.Arm(1)
	for _, f := range []frame.Frame{{}, {Kind: 1, Epoch: -1}, {Kind: 1, Body: bodyOf(239)}, {Kind: 1, Page: 2}} {
		if frame.Write(d, f) == api.OK {
			t.Errorf("Write(%v) = OK", f)
		}
	}
	if _, writes, _ := d.Counts(); writes != 0 || d.Waiting() != 0 || !d.On() {
		t.Errorf("%d writes were done, %d wait, on %v", writes, d.Waiting(), d.On())
	}
	if e := frame.Write(d, frame.Frame{Kind: 1, Page: 1}); e != api.OK {
		t.Errorf("Write = %d", e)
	}
}

// spoil turns all bytes of b, those behind its end that it has room for too.
func spoil(b []byte) {
	b = b[:cap(b)]
	for i := range b {
		b[i] ^= 255
	}
}

// P4.3: bodies and bytes share no memory with each other, nor with the device.
func TestNothingIsShared(t *testing.T) {
	f := plain()
	b := encoded(t, f)
	spoil(f.Body)
	if !bytes.Equal(b, page(plain())) {
		t.Error("Encode's bytes share the body's memory")
	}
	kept := slices.Clone(b)
	for name, read := range map[string]func() (frame.Frame, api.Errno){
		"Decode": func() (frame.Frame, api.Errno) { return frame.Decode(b) },
		"Open":   func() (frame.Frame, api.Errno) { return frame.Open(b, 2) },
	} {
		g, e := read()
		spoil(g.Body)
		if e != api.OK || !bytes.Equal(b, kept) {
			t.Errorf("%s: the body shares the bytes' memory", name)
		}
		g, _ = read()
		spoil(b)
		if !frame.Same(g, plain()) {
			t.Errorf("%s: the bytes are kept", name)
		}
		b = slices.Clone(kept)
	}
}

// P4.3: the same of a device's pages.
func TestDeviceSharesNothing(t *testing.T) {
	d := made(t, 4)
	f := plain()
	frame.Write(d, f)
	spoil(f.Body)
	for range 2 {
		g, e := frame.Read(d, 2)
		wantFrame(t, "Read", g, e, plain())
		spoil(g.Body)
		d.Sync()
	}
	g, _ := frame.Read(d, 2)
	d.Write(2, make([]byte, 256))
	d.Sync()
	wantFrame(t, "what was read ahead", g, api.OK, plain())
}

// P4.3: what is handed in isn't changed.
func TestNothingIsChanged(t *testing.T) {
	room := append(make([]byte, 0, 300), "hello"...)
	behind := room[:300]
	spoil(behind[5:])
	kept := slices.Clone(behind)
	frame.Encode(frame.Frame{Kind: 1, Body: room})
	frame.Write(made(t, 1), frame.Frame{Kind: 1, Body: room})
	if !bytes.Equal(behind, kept) {
		t.Error("the body, or what stands behind it, was changed")
	}
	for _, b := range [][]byte{encoded(t, plain()), make([]byte, 256), crc.Mark(make([]byte, 252))} {
		kept := slices.Clone(b)
		kinds := []int{4, 3, 1}
		frame.Decode(b)
		frame.Open(b, 2, kinds...)
		if !bytes.Equal(b, kept) || !slices.Equal(kinds, []int{4, 3, 1}) {
			t.Error("the bytes or the kinds were changed")
		}
	}
}

// P2: the same calls have the same answers.
func TestSameCallsSameAnswers(t *testing.T) {
	run := func() []byte {
		d := made(t, 3)
		var out []byte
		for i := range 40 {
			f := frame.Frame{Kind: i % 11, Epoch: i * 12345, Page: i % 4, Body: bodyOf(i * 7)}
			out = append(out, byte(frame.Write(d, f)))
			g, e := frame.Read(d, i%4, 1+i%9, 1+i%5)
			out = append(out, byte(g.Kind), byte(g.Epoch), byte(g.Page), byte(e))
			out = append(out, g.Body...)
		}
		return append(out, d.Image()...)
	}
	if !bytes.Equal(run(), run()) {
		t.Error("the same calls answered otherwise")
	}
}
