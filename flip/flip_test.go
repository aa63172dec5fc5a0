package flip_test

import (
	"bytes"
	"math"
	"slices"
	"testing"

	"incipit/api"
	"incipit/crc"
	"incipit/device"
	"incipit/flip"
	"incipit/frame"
)

// The edges of a superblock's numbers, and what lies beyond.
var (
	epochs = []int{math.MinInt, -2, -1, 0, 1, 2, 3, 255, 256, 65536, 1<<31 - 1, 1 << 31, 1<<32 - 2, 1<<32 - 1, 1 << 32, 1<<32 + 1, math.MaxInt}
	pages  = []int{math.MinInt, -1, 0, 1, 2, 3, 255, 256, 2046, 2047, 2048, 65536, 65538, math.MaxInt}
	stamps = []int{math.MinInt, -1, 0, 1, 255, 256, 65536, 1<<31 - 2, 1<<31 - 1, 1 << 31, 1<<32 - 1, 1 << 32, math.MaxInt}
)

func TestConstants(t *testing.T) {
	if flip.Kind != 1 || flip.First != 2 {
		t.Errorf("Kind %d, First %d", flip.Kind, flip.First)
	}
}

// P5.1: each number's edges, with each other's; what is right is encoded, and decoded as it was.
func TestCheckEncodeAndDecode(t *testing.T) {
	for _, epoch := range epochs {
		for _, root := range pages {
			for _, shadow := range pages {
				for _, stamp := range stamps {
					checkOne(t, flip.Super{Epoch: epoch, Root: root, Shadow: shadow, Stamp: stamp})
				}
			}
		}
	}
}

func checkOne(t *testing.T, s flip.Super) {
	t.Helper()
	want := api.ErrRange
	if right(s) {
		want = api.OK
	}
	if e := flip.Check(s); e != want {
		t.Fatalf("Check(%v) = %d, want %d", s, e, want)
	}
	b, e := flip.Encode(s)
	if want != api.OK {
		if b != nil || e != want {
			t.Fatalf("Encode(%v) = %d bytes, %d, want none and %d", s, len(b), e, want)
		}
		return
	}
	if e != api.OK || !bytes.Equal(b, page(t, s)) {
		t.Fatalf("Encode(%v) = %x %d, want %x", s, b, e, page(t, s))
	}
	got, e := flip.Decode(b, pageOf(s.Epoch))
	if wantSuper(t, "Decode", got, e, s); t.Failed() {
		t.FailNow()
	}
}

// P5.1: one number beyond its edge is enough.
func TestCheckOfOneNumber(t *testing.T) {
	plain := flip.Super{Epoch: 1}
	for i, c := range []struct {
		s    flip.Super
		want api.Errno
	}{
		{plain, api.OK}, {none, api.ErrRange},
		{flip.Super{Epoch: 1<<32 - 1, Root: 2047, Shadow: 2047, Stamp: 1<<31 - 1}, api.OK},
		{flip.Super{Epoch: -1}, api.ErrRange}, {flip.Super{Epoch: 1 << 32}, api.ErrRange},
		{flip.Super{Epoch: 1, Root: -1}, api.ErrRange}, {flip.Super{Epoch: 1, Root: 1}, api.ErrRange},
		{flip.Super{Epoch: 1, Root: 2}, api.OK}, {flip.Super{Epoch: 1, Root: 2048}, api.ErrRange},
		{flip.Super{Epoch: 1, Shadow: -1}, api.ErrRange}, {flip.Super{Epoch: 1, Shadow: 1}, api.ErrRange},
		{flip.Super{Epoch: 1, Shadow: 2}, api.OK}, {flip.Super{Epoch: 1, Shadow: 2048}, api.ErrRange},
		{flip.Super{Epoch: 1, Stamp: -1}, api.ErrRange}, {flip.Super{Epoch: 1, Stamp: 1 << 31}, api.ErrRange},
		{flip.Super{Epoch: 1, Root: 9, Shadow: 9}, api.OK},
	} {
		if e := flip.Check(c.s); e != c.want {
			t.Errorf("%d: Check(%v) = %d, want %d", i, c.s, e, c.want)
		}
	}
}

// P5.1: an even epoch's page is 0, an odd one's 1.
func TestSlot(t *testing.T) {
	for epoch, want := range map[int]int{
		0: 0, 1: 1, 2: 0, 3: 1, 1<<32 - 2: 0, 1<<32 - 1: 1, 1 << 32: 0,
		-1: 1, -2: 0, -3: 1, math.MinInt: 0, math.MaxInt: 1,
	} {
		if got := flip.Slot(epoch); got != want {
			t.Errorf("Slot(%d) = %d, want %d", epoch, got, want)
		}
	}
}

// P5.1: root and shadow, two bytes each, and the stamp, four; the lowest byte first.
func TestEncodedBytes(t *testing.T) {
	b, e := flip.Encode(flip.Super{Epoch: 0x04030201, Root: 0x0605, Shadow: 0x0102, Stamp: 0x0D0C0B0A})
	want := []byte{0xF1, 1, 1, 2, 3, 4, 1, 0, 8, 0, 5, 6, 2, 1, 0x0A, 0x0B, 0x0C, 0x0D}
	want = append(want, make([]byte, 230)...)
	want = append(want, 1, 2, 3, 4)
	if e != api.OK || !bytes.Equal(b, crc.Mark(want)) {
		t.Errorf("Encode = %x %d, want %x and its sum", b, e, want)
	}
}

// P5.1: only the pages 0 and 1 have superblocks; that is named ahead of all else.
func TestDecodeOfOtherPages(t *testing.T) {
	good := page(t, flip.Super{Epoch: 2})
	for _, no := range []int{math.MinInt, -2, -1, 2, 3, 256, 65536, math.MaxInt} {
		for _, b := range [][]byte{good, nil, good[:255], make([]byte, 256)} {
			s, e := flip.Decode(b, no)
			wantError(t, "Decode", s, e, api.ErrRange)
		}
	}
}

// P5.1: Open's errors ahead of what is wrong with the superblock.
func TestDecodeErrors(t *testing.T) {
	s := flip.Super{Epoch: 2, Root: 3, Shadow: 4, Stamp: 5}
	good, body := page(t, s), bodyOf(s)
	with := func(kind, epoch, no int, body []byte) []byte {
		return framed(t, frame.Frame{Kind: kind, Epoch: epoch, Page: no, Body: body})
	}
	wrong := bodyOf(flip.Super{Root: 1})
	for name, c := range map[string]struct {
		bytes []byte
		page  int
		want  api.Errno
	}{
		"no bytes":                  {nil, 0, api.ErrLong},
		"a byte less":               {good[:255], 0, api.ErrLong},
		"a byte more":               {append(slices.Clone(good), 0), 0, api.ErrLong},
		"all 0":                     {make([]byte, 256), 0, api.ErrSum},
		"a byte turned":             {crc.Turn(good, 12, 1), 0, api.ErrSum},
		"no frame":                  {resealed(good, 0, 1), 0, api.ErrForm},
		"of page 0 on page 1":       {good, 1, api.ErrSum},
		"of page 1 on page 0":       {page(t, flip.Super{Epoch: 3}), 0, api.ErrSum},
		"of page 2":                 {with(1, 2, 2, body), 0, api.ErrSum},
		"of page 2, another kind":   {with(2, 2, 2, body), 0, api.ErrSum},
		"another kind":              {with(2, 2, 0, body), 0, api.ErrKind},
		"kind 9":                    {with(9, 2, 0, body), 0, api.ErrKind},
		"another kind, all wrong":   {with(2, 3, 0, wrong[:7]), 0, api.ErrKind},
		"an odd epoch on page 0":    {with(1, 3, 0, body), 0, api.ErrForm},
		"an even epoch on page 1":   {with(1, 2, 1, body), 1, api.ErrForm},
		"epoch 0 on page 0":         {with(1, 0, 0, body), 0, api.ErrForm},
		"epoch 0 on page 1":         {with(1, 0, 1, body), 1, api.ErrForm},
		"the last epoch on page 0":  {with(1, 1<<32-1, 0, body), 0, api.ErrForm},
		"no body":                   {with(1, 2, 0, nil), 0, api.ErrForm},
		"a body of 7 bytes":         {with(1, 2, 0, body[:7]), 0, api.ErrForm},
		"a body of 4 bytes":         {with(1, 2, 0, body[:4]), 0, api.ErrForm},
		"a body of 9 bytes":         {with(1, 2, 0, append(slices.Clone(body), 0)), 0, api.ErrForm},
		"a body of 238 bytes":       {with(1, 2, 0, append(slices.Clone(body), make([]byte, 230)...)), 0, api.ErrForm},
		"root 1":                    {with(1, 2, 0, wrong), 0, api.ErrForm},
		"root 2048":                 {with(1, 2, 0, bodyOf(flip.Super{Root: 2048})), 0, api.ErrForm},
		"root 65535":                {with(1, 2, 0, bodyOf(flip.Super{Root: 65535})), 0, api.ErrForm},
		"shadow 1":                  {with(1, 2, 0, bodyOf(flip.Super{Shadow: 1})), 0, api.ErrForm},
		"shadow 2048":               {with(1, 2, 0, bodyOf(flip.Super{Shadow: 2048})), 0, api.ErrForm},
		"stamp 2^31":                {with(1, 2, 0, bodyOf(flip.Super{Stamp: 1 << 31})), 0, api.ErrForm},
		"stamp 2^32-1":              {with(1, 2, 0, bodyOf(flip.Super{Stamp: 1<<32 - 1})), 0, api.ErrForm},
		"right, page 0":             {good, 0, api.OK},
		"right, page 0, highest":    {page(t, flip.Super{Epoch: 1<<32 - 2, Root: 2047, Shadow: 2047, Stamp: 1<<31 - 1}), 0, api.OK},
		"right, page 1, the lowest": {page(t, flip.Super{Epoch: 1}), 1, api.OK},
	} {
		s, e := flip.Decode(c.bytes, c.page)
		if c.want != api.OK {
			wantError(t, name, s, e, c.want)
		} else if e != api.OK || !bytes.Equal(page(t, s), c.bytes) {
			t.Errorf("%s: %v %d", name, s, e)
		}
	}
}

// P5.1, P5.3: every byte's every value with a right sum is answered as the model answers it.
func TestDecodeAsTheModel(t *testing.T) {
	for _, s := range []flip.Super{{Epoch: 2, Root: 3, Shadow: 4, Stamp: 5}, {Epoch: 1<<32 - 1, Root: 2047, Stamp: 1<<31 - 1}} {
		good := page(t, s)
		for _, at := range []int{0, 1, 2, 5, 6, 7, 8, 9, 10, 11, 12, 13, 14, 15, 16, 17, 18, 247, 248, 251} {
			for by := range 256 {
				b := resealed(good, at, byte(by))
				if at == 2 || at == 5 { // the epoch stands twice
					b = resealed(b, at+246, byte(by))
				}
				for no := range 2 {
					want, wantE := decoded(b, no)
					if got, e := flip.Decode(b, no); got != want || e != wantE {
						t.Fatalf("byte %d turned by %d: Decode on page %d = %v %d, want %v %d", at, by, no, got, e, want, wantE)
					}
				}
			}
		}
	}
}

// P5.2: the first of the highest epoch, be it a right one or not.
func TestChoose(t *testing.T) {
	s := func(epoch, root int) flip.Super { return flip.Super{Epoch: epoch, Root: root} }
	for i, c := range []struct {
		l    []flip.Super
		want flip.Super
	}{
		{[]flip.Super{s(5, 2)}, s(5, 2)},
		{[]flip.Super{none}, none},
		{[]flip.Super{s(1, 2), s(2, 3)}, s(2, 3)},
		{[]flip.Super{s(2, 3), s(1, 2)}, s(2, 3)},
		{[]flip.Super{s(2, 3), s(2, 2)}, s(2, 3)},
		{[]flip.Super{s(2, 2), s(2, 3)}, s(2, 2)},
		{[]flip.Super{s(1, 9), s(7, 3), s(7, 2), s(4, 8), s(7, 4)}, s(7, 3)},
		{[]flip.Super{s(9, 9), s(7, 3), s(9, 2)}, s(9, 9)},
		{[]flip.Super{s(3, 2047), {Epoch: 3, Stamp: 9}, s(2, 5)}, s(3, 2047)},
		{[]flip.Super{s(-3, 2), s(-2, -7), s(math.MinInt, 4)}, s(-2, -7)},
		{[]flip.Super{s(1<<32-1, 2), s(1<<32, 3)}, s(1<<32, 3)},
		{[]flip.Super{s(math.MinInt, 2), s(math.MaxInt, 3), s(-1, 2)}, s(math.MaxInt, 3)},
	} {
		kept := slices.Clone(c.l)
		got, e := flip.Choose(c.l...)
		if wantSuper(t, "Choose", got, e, c.want); !slices.Equal(c.l, kept) || t.Failed() {
			t.Errorf("%d: of %v, now %v", i, kept, c.l)
		}
	}
	for _, l := range [][]flip.Super{nil, {}} {
		s, e := flip.Choose(l...)
		wantError(t, "Choose of none", s, e, api.ErrNone)
	}
}

// stand is what may stand on a page.
type stand struct {
	name  string
	bytes []byte
	right bool
	super flip.Super
}

// stands: right superblocks of a page, and all sorts of what is none.
func stands(t *testing.T, no int) []stand {
	high := flip.Super{Epoch: 1<<32 - 2 - no, Root: 2047, Stamp: 1}
	mid := flip.Super{Epoch: 10 + no, Root: 5, Shadow: 6, Stamp: 7}
	least := flip.Super{Epoch: 2 - no}
	b := page(t, mid)
	with := func(kind, epoch int, body []byte) []byte {
		return framed(t, frame.Frame{Kind: kind, Epoch: epoch, Page: no, Body: body})
	}
	body := bodyOf(mid)
	return []stand{
		{"the highest", page(t, high), true, high},
		{"a right one", b, true, mid},
		{"the least", page(t, least), true, least},
		{"nothing", make([]byte, 256), false, none},
		{"turned", crc.Turn(b, 11, 4), false, none},
		{"torn over nothing", torn(make([]byte, 256), b, 250), false, none},
		{"torn over another", torn(page(t, flip.Super{Epoch: 8 + no, Root: 9}), b, 20), false, none},
		{"no frame", resealed(b, 0, 1), false, none},
		{"another page's", page(t, flip.Super{Epoch: 11 - no, Root: 5}), false, none},
		{"another kind", with(2, 10+no, body), false, none},
		{"another page's epoch", with(1, 21-no, body), false, none},
		{"epoch 0", with(1, 0, body), false, none},
		{"a short body", with(1, 10+no, body[:7]), false, none},
		{"a long body", with(1, 10+no, append(slices.Clone(body), 0)), false, none},
		{"root 1", with(1, 10+no, bodyOf(flip.Super{Root: 1})), false, none},
	}
}

// pairs: all that may stand on both pages, and what counts of it, if anything does.
func pairs(t *testing.T, ask func(name string, d *device.Device, want flip.Super, there bool)) {
	t.Helper()
	for _, zero := range stands(t, 0) {
		for _, one := range stands(t, 1) {
			want := zero.super
			if !zero.right || one.right && one.super.Epoch > zero.super.Epoch {
				want = one.super
			}
			ask(zero.name+" and "+one.name, loaded(t, zero.bytes, one.bytes), want, zero.right || one.right)
		}
	}
}

// P5.2: the right one of the higher epoch counts; what isn't right is passed over.
func TestFind(t *testing.T) {
	pairs(t, func(name string, d *device.Device, want flip.Super, there bool) {
		image := d.Image()
		d.Arm(0)
		wantFound(t, name, d, want, there)
		wantFound(t, name+", once more", d, want, there)
		if _, writes, syncs := d.Counts(); writes != 0 || syncs != 0 || !d.On() || !bytes.Equal(d.Image(), image) {
			t.Errorf("%s: Find changed the device", name)
		}
	})
}

// P5.2: what waits is what is read.
func TestFindOfWhatWaits(t *testing.T) {
	two, three := flip.Super{Epoch: 2, Root: 4}, flip.Super{Epoch: 3, Root: 5}
	d := loaded(t, page(t, two), make([]byte, 256))
	d.Write(1, page(t, three))
	wantFound(t, "waiting", d, three, true)
	d.Write(1, make([]byte, 256))
	wantFound(t, "overwritten", d, two, true)
}

// P5.2: the device's errors at Find.
func TestFindDeviceErrors(t *testing.T) {
	whole, e := device.Load(page(t, flip.Super{Epoch: 2}))
	if e != api.OK {
		t.Fatal(e)
	}
	for i, c := range []struct {
		d    *device.Device
		want api.Errno
	}{
		{nil, api.ErrDown}, {off(t, 4), api.ErrDown}, {off(t, 1), api.ErrDown},
		{made(t, 1), api.ErrRange}, {whole, api.ErrRange},
		{made(t, 2), api.ErrSum}, {made(t, 2048), api.ErrSum}, {armed(t, 0), api.ErrSum},
	} {
		s, e := flip.Find(c.d)
		if wantError(t, "Find", s, e, c.want); t.Failed() {
			t.Fatal(i)
		}
	}
	d := loaded(t, page(t, flip.Super{Epoch: 2}), page(t, flip.Super{Epoch: 1}))
	d.Crash()
	s, e := flip.Find(d)
	wantError(t, "Find without power", s, e, api.ErrDown)
}

// flipped: a flip that is answered OK, and what it has to leave on the device.
func flipped(t *testing.T, d *device.Device, s, want flip.Super) {
	t.Helper()
	image := d.Image()
	_, writes, syncs := d.Counts()
	got, e := flip.Flip(d, s)
	wantSuper(t, "Flip", got, e, want)
	copy(image[256*pageOf(want.Epoch):], page(t, want))
	if !bytes.Equal(d.Image(), image) || d.Waiting() != 0 {
		t.Errorf("behind the flip to %v: %d wait, and laid is %x, want %x", want, d.Waiting(), d.Image(), image)
	}
	if _, w, y := d.Counts(); w != writes+1 || y != syncs+1 {
		t.Errorf("the flip to %v: %d writes and %d syncs, want one each", want, w-writes, y-syncs)
	}
	wantFound(t, "Find behind it", d, want, true)
}

// P5.2: epoch 1 on page 1, then 2 on page 0, and so on; each is found behind it.
func TestFlips(t *testing.T) {
	for _, size := range []int{2, 4, 2048} {
		d := made(t, size)
		for epoch := 1; epoch < 20; epoch++ {
			s := flip.Super{Root: 2 * (epoch % 5), Shadow: 2047 - epoch, Stamp: epoch * epoch * 1000003}
			want := s
			want.Epoch = epoch
			flipped(t, d, s, want)
		}
	}
}

// P5.2: a flip of nothing but 0, and of the greatest numbers.
func TestFlipOfEdges(t *testing.T) {
	d := made(t, 4)
	flipped(t, d, none, flip.Super{Epoch: 1})
	flipped(t, d, flip.Super{Root: 2047, Shadow: 2047, Stamp: 1<<31 - 1}, flip.Super{Epoch: 2, Root: 2047, Shadow: 2047, Stamp: 1<<31 - 1})
	flipped(t, d, flip.Super{Root: 2, Shadow: 2}, flip.Super{Epoch: 3, Root: 2, Shadow: 2})
}

// P5.2: whatever stands on the pages, one more than what counts is next, or 1.
func TestFlipOverAll(t *testing.T) {
	pairs(t, func(name string, d *device.Device, ahead flip.Super, there bool) {
		s := flip.Super{Root: 8, Shadow: 9, Stamp: 10}
		want := s
		want.Epoch = ahead.Epoch + 1
		if flipped(t, d, s, want); t.Failed() {
			t.Fatal(name)
		}
	})
}

// P5.2: the epoch that is handed in doesn't matter.
func TestFlipAtAnyEpoch(t *testing.T) {
	for _, epoch := range epochs {
		d := made(t, 4)
		for n := range 3 {
			s := flip.Super{Epoch: epoch, Root: 3, Stamp: n}
			flipped(t, d, s, flip.Super{Epoch: n + 1, Root: 3, Stamp: n})
		}
	}
}

// refused: a flip that is answered by an error and leaves all as it was.
func refused(t *testing.T, d *device.Device, s flip.Super, want api.Errno) {
	t.Helper()
	image, waiting, on := d.Image(), d.Waiting(), d.On()
	_, writes, syncs := d.Counts()
	got, e := flip.Flip(d, s)
	wantError(t, "Flip", got, e, want)
	_, w, y := d.Counts()
	if !bytes.Equal(d.Image(), image) || d.Waiting() != waiting || d.On() != on || w != writes || y != syncs {
		t.Errorf("the flip of %v was refused, but changed the device", s)
	}
}

// P5.2: behind the greatest epoch there is no flip.
func TestFlipAtTheLastEpoch(t *testing.T) {
	last := flip.Super{Epoch: 1<<32 - 1, Root: 9}
	for _, zero := range [][]byte{make([]byte, 256), page(t, flip.Super{Epoch: 1<<32 - 2}), page(t, flip.Super{Epoch: 2})} {
		d := loaded(t, zero, page(t, last))
		for _, s := range []flip.Super{none, {Epoch: 5, Root: 2}, {Root: 1}} {
			refused(t, d, s, api.ErrRange)
			wantFound(t, "Find", d, last, true)
		}
	}
	d := loaded(t, page(t, flip.Super{Epoch: 1<<32 - 2, Root: 4}), make([]byte, 256))
	flipped(t, d, flip.Super{Root: 9}, last)
	refused(t, d, flip.Super{Root: 9}, api.ErrRange)
}

// wrongSupers: root, shadow or stamp isn't as it must be, at an epoch that is.
func wrongSupers() []flip.Super {
	var l []flip.Super
	for _, n := range pages {
		if !leads(n) {
			l = append(l, flip.Super{Epoch: 1, Root: n}, flip.Super{Epoch: 1, Shadow: n, Root: 5})
		}
	}
	for _, n := range stamps {
		if n < 0 || n > 1<<31-1 {
			l = append(l, flip.Super{Epoch: 1, Stamp: n})
		}
	}
	return append(l, flip.Super{Root: 1, Shadow: 1, Stamp: -1})
}

// P5.2: which error is named where several apply.
func TestFlipErrors(t *testing.T) {
	good := flip.Super{Root: 2}
	for _, wrong := range wrongSupers() {
		refused(t, nil, wrong, api.ErrDown)
		refused(t, off(t, 4), wrong, api.ErrDown)
		refused(t, off(t, 1), wrong, api.ErrDown)
		refused(t, made(t, 1), wrong, api.ErrRange)
		refused(t, made(t, 4), wrong, api.ErrRange)
		// The write would be refused, but the range is asked ahead of it.
		refused(t, armed(t, 0), wrong, api.ErrRange)
		d := armed(t, 2)
		refused(t, d, wrong, api.ErrRange)
		flipped(t, d, good, flip.Super{Epoch: 1, Root: 2})
	}
	refused(t, nil, good, api.ErrDown)
	refused(t, off(t, 4), good, api.ErrDown)
	refused(t, off(t, 1), good, api.ErrDown)
	refused(t, made(t, 1), good, api.ErrRange)
	last := loaded(t, make([]byte, 256), page(t, flip.Super{Epoch: 1<<32 - 1}))
	last.Arm(0)
	refused(t, last, good, api.ErrRange)
	last.Crash()
	refused(t, last, good, api.ErrDown)
}

// P5.2: the device's error of the write, and of the sync.
func TestFlipWithoutPower(t *testing.T) {
	for left, waiting := range []int{0, 1} {
		d := armed(t, left)
		s, e := flip.Flip(d, flip.Super{Epoch: 3, Root: 2})
		wantError(t, "Flip", s, e, api.ErrDown)
		if d.Waiting() != waiting || d.On() || !bytes.Equal(d.Image(), make([]byte, 1024)) {
			t.Errorf("%d left: %d wait, want %d; on %v", left, d.Waiting(), waiting, d.On())
		}
	}
	// A write and a sync are enough, and are spent.
	d := armed(t, 2)
	flipped(t, d, none, flip.Super{Epoch: 1})
	if d.Write(3, make([]byte, 256)) != api.ErrDown {
		t.Error("a flip has to spend a write and a sync")
	}
}

// P5.2: a flip syncs what waits of other pages, and a refused one doesn't.
func TestFlipSyncs(t *testing.T) {
	d := made(t, 4)
	b := bytes.Repeat([]byte{5}, 256)
	d.Write(3, b)
	refused(t, d, flip.Super{Root: 1}, api.ErrRange)
	if _, e := flip.Flip(d, none); e != api.OK || d.Waiting() != 0 || !bytes.Equal(laid(d, 3), b) {
		t.Errorf("Flip: %d; %d wait", e, d.Waiting())
	}
}

// The rules: bytes that are handed in are neither kept nor changed; answers are new memory.
func TestNothingIsShared(t *testing.T) {
	s := flip.Super{Epoch: 2, Root: 3}
	b, _ := flip.Encode(s)
	clear(b[:cap(b)])
	if b, _ = flip.Encode(s); !bytes.Equal(b, page(t, s)) {
		t.Error("Encode's bytes share memory")
	}
	for _, b := range [][]byte{b, make([]byte, 256), crc.Mark(make([]byte, 252)), page(t, flip.Super{Epoch: 4, Root: 1})} {
		kept := slices.Clone(b)
		flip.Decode(b, 0)
		flip.Decode(b, 1)
		if !bytes.Equal(b, kept) {
			t.Error("the bytes were changed")
		}
	}
}
