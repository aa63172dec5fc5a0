package device_test

import (
	"bytes"
	"math"
	"slices"
	"sync"
	"testing"

	"incipit/api"
	"incipit/device"
)

// full: a page of one byte's value.
func full(c byte) []byte { return bytes.Repeat([]byte{c}, api.PageSize) }

// made: a new device.
func made(t *testing.T, pages int) *device.Device {
	t.Helper()
	d, e := device.New(pages)
	if e != api.OK || d == nil {
		t.Fatalf("New(%d): %d", pages, e)
	}
	return d
}

// write: the pages' bytes wait, one version behind the other.
func write(t *testing.T, d *device.Device, no int, values ...byte) {
	t.Helper()
	for _, c := range values {
		if e := d.Write(no, full(c)); e != api.OK {
			t.Fatalf("Write(%d, %d..): %d", no, c, e)
		}
	}
}

// laid: a device of so many pages, all bytes of which are c.
func laid(t *testing.T, pages int, c byte) *device.Device {
	t.Helper()
	d, e := device.Load(bytes.Repeat(full(c), pages))
	if e != api.OK || d == nil {
		t.Fatalf("Load of %d pages: %d", pages, e)
	}
	return d
}

func wantPage(t *testing.T, d *device.Device, no int, want []byte) {
	t.Helper()
	if got, e := d.Read(no); e != api.OK || !bytes.Equal(got, want) {
		t.Errorf("Read(%d) = %x %d, want %x", no, got, e, want)
	}
}

func wantCounts(t *testing.T, d *device.Device, reads, writes, syncs int) {
	t.Helper()
	if r, w, s := d.Counts(); r != reads || w != writes || s != syncs {
		t.Errorf("Counts = %d %d %d, want %d %d %d", r, w, s, reads, writes, syncs)
	}
}

// isFresh: so many pages, on, nothing waits, nothing was done.
func isFresh(t *testing.T, d *device.Device, pages int) {
	t.Helper()
	if d.Pages() != pages || !d.On() || d.Waiting() != 0 || len(d.Image()) != 256*pages {
		t.Errorf("Pages %d, On %v, Waiting %d, Image of %d bytes, want %d pages, on, none, %d", d.Pages(), d.On(), d.Waiting(), len(d.Image()), pages, 256*pages)
	}
	wantCounts(t, d, 0, 0, 0)
}

// P3.1: a device has 1 to 2048 pages, all 0.
func TestNew(t *testing.T) {
	for _, pages := range []int{1, 2, 15, 16, 17, 2047, 2048} {
		d := made(t, pages)
		isFresh(t, d, pages)
		if !bytes.Equal(d.Image(), make([]byte, 256*pages)) {
			t.Errorf("New(%d): not all bytes are 0", pages)
		}
		wantPage(t, d, 0, full(0))
		wantPage(t, d, pages-1, full(0))
	}
	for _, pages := range []int{math.MinInt, -256, -1, 0, 2049, 1 << 31, 1 << 56, math.MaxInt} {
		if d, e := device.New(pages); d != nil || e != api.ErrArg {
			t.Errorf("New(%d) = %v %d, want nothing and ErrArg", pages, d, e)
		}
	}
}

// P3.1: an image is so many whole pages as a device may have.
func TestLoad(t *testing.T) {
	c := chance(1)
	for _, pages := range []int{1, 2, 16, 2047, 2048} {
		image := c.bytes(256 * pages)
		d, e := device.Load(image)
		if e != api.OK {
			t.Fatalf("Load of %d pages: %d", pages, e)
		}
		isFresh(t, d, pages)
		if !bytes.Equal(d.Image(), image) {
			t.Errorf("Load of %d pages: the image is another one", pages)
		}
		wantPage(t, d, 0, image[:256])
		wantPage(t, d, pages-1, image[256*(pages-1):])
	}
	for _, size := range []int{0, 1, 255, 257, 511, 513, 256*2048 - 1, 256*2048 + 1, 256*2048 + 255, 256 * 2049} {
		if d, e := device.Load(make([]byte, size)); d != nil || e != api.ErrArg {
			t.Errorf("Load of %d bytes = %v %d, want nothing and ErrArg", size, d, e)
		}
	}
	if d, e := device.Load(nil); d != nil || e != api.ErrArg {
		t.Errorf("Load(nil) = %v %d, want nothing and ErrArg", d, e)
	}
}

// P3.1: the pages that are there are those from 0 up to the last one, be the device new or loaded.
func TestWhichPagesAreThere(t *testing.T) {
	for _, pages := range []int{1, 2, 3, 2048} {
		for _, d := range []*device.Device{made(t, pages), laid(t, pages, 1)} {
			for _, no := range []int{0, pages / 2, pages - 1} {
				if e := d.Write(no, full(9)); e != api.OK {
					t.Errorf("%d pages: Write(%d) = %d, want OK", pages, no, e)
				}
				wantPage(t, d, no, full(9))
			}
			image := d.Image()
			for _, no := range []int{math.MinInt, -pages, -1, pages, pages + 1, 2048, 1 << 56, math.MaxInt} {
				if b, e := d.Read(no); b != nil || e != api.ErrRange {
					t.Errorf("%d pages: Read(%d) = %x %d, want nothing and ErrRange", pages, no, b, e)
				}
				if e := d.Write(no, full(9)); e != api.ErrRange {
					t.Errorf("%d pages: Write(%d) = %d, want ErrRange", pages, no, e)
				}
			}
			if !d.On() || !bytes.Equal(d.Image(), image) {
				t.Errorf("%d pages: what was refused has changed the device", pages)
			}
		}
	}
}

// P3.1: only a whole page is written.
func TestLengths(t *testing.T) {
	d := laid(t, 2, 7)
	for _, size := range []int{0, 1, 255, 257, 511, 512} {
		if e := d.Write(1, make([]byte, size)); e != api.ErrLong {
			t.Errorf("Write of %d bytes = %d, want ErrLong", size, e)
		}
	}
	if e := d.Write(1, nil); e != api.ErrLong {
		t.Errorf("Write of nil = %d, want ErrLong", e)
	}
	if d.Waiting() != 0 || !d.On() {
		t.Errorf("what was refused waits: %d", d.Waiting())
	}
	wantPage(t, d, 1, full(7))
	if e := d.Write(1, full(8)); e != api.OK || d.Waiting() != 1 {
		t.Errorf("Write of 256 bytes = %d, want OK", e)
	}
}

// P3.1: what is read is the last version; what is laid changes with a sync alone.
func TestVersionsAndSync(t *testing.T) {
	d := laid(t, 3, 7)
	for i, c := range []byte{1, 2, 3} {
		write(t, d, 1, c)
		wantPage(t, d, 1, full(c))
		if d.Waiting() != i+1 {
			t.Errorf("Waiting = %d, want %d", d.Waiting(), i+1)
		}
	}
	write(t, d, 2, 4, 4)
	wantPage(t, d, 0, full(7))
	wantPage(t, d, 2, full(4))
	if d.Waiting() != 5 || !bytes.Equal(d.Image(), bytes.Repeat(full(7), 3)) {
		t.Errorf("ahead of a sync: Waiting = %d, want 5, and nothing is laid", d.Waiting())
	}
	for range 2 {
		if e := d.Sync(); e != api.OK || d.Waiting() != 0 {
			t.Errorf("Sync = %d, Waiting = %d, want OK and 0", e, d.Waiting())
		}
		if want := slices.Concat(full(7), full(3), full(4)); !bytes.Equal(d.Image(), want) {
			t.Error("behind a sync the last versions have to be laid")
		}
		wantPage(t, d, 1, full(3))
	}
	wantCounts(t, d, 7, 5, 2)
}

// P3.1: where several errors apply the one named first is answered.
func TestOrderOfErrors(t *testing.T) {
	down := func(d *device.Device) { d.Crash() }
	spent := func(d *device.Device) { d.Arm(0) }
	for _, c := range []struct {
		name string
		to   func(*device.Device)
		no   int
		size int
		want api.Errno
		on   bool
	}{
		{"off, out of range, of another length", down, 2, 1, api.ErrDown, false},
		{"off, out of range", down, -1, 256, api.ErrDown, false},
		{"off, of another length", down, 0, 255, api.ErrDown, false},
		{"off", down, 0, 256, api.ErrDown, false},
		{"out of range, of another length, nothing left", spent, 2, 0, api.ErrRange, true},
		{"out of range, nothing left", spent, -1, 256, api.ErrRange, true},
		{"of another length, nothing left", spent, 1, 257, api.ErrLong, true},
		{"nothing left", spent, 1, 256, api.ErrDown, false},
	} {
		d := made(t, 2)
		c.to(d)
		if e := d.Write(c.no, make([]byte, c.size)); e != c.want || d.On() != c.on {
			t.Errorf("%s: Write = %d, On = %v, want %d, %v", c.name, e, d.On(), c.want, c.on)
		}
		wantCounts(t, d, 0, 0, 0)
	}
	d := made(t, 2)
	d.Crash()
	for _, no := range []int{-1, 0, 2} {
		if b, e := d.Read(no); b != nil || e != api.ErrDown {
			t.Errorf("off: Read(%d) = %x %d, want nothing and ErrDown", no, b, e)
		}
	}
	if e := d.Sync(); e != api.ErrDown {
		t.Errorf("off: Sync = %d, want ErrDown", e)
	}
}

// P3.2: of a page's versions a crash keeps the first N, and Part bytes of the next one.
func TestWhatACrashKeeps(t *testing.T) {
	versions := []byte{1, 2, 3}
	for have := range len(versions) + 1 {
		for _, n := range []int{math.MinInt, -1, 0, 1, 2, 3, 4, math.MaxInt} {
			for _, part := range []int{math.MinInt, -1, 0, 1, 2, 255, 256, 257, math.MaxInt} {
				d := laid(t, 3, 9)
				write(t, d, 1, versions[:have]...)
				kept := max(0, min(n, have))
				want := full(9)
				if kept > 0 {
					want = full(versions[kept-1])
				}
				if kept < have && part > 0 {
					copy(want[:min(part, 256)], full(versions[kept]))
				}
				if got := d.Crash(device.Keep{Page: 1, N: n, Part: part}); got != kept {
					t.Errorf("%d versions, {1, %d, %d}: Crash = %d, want %d", have, n, part, got, kept)
				}
				if d.On() || d.Waiting() != 0 {
					t.Errorf("behind a crash: On %v, Waiting %d", d.On(), d.Waiting())
				}
				if !bytes.Equal(d.Image(), slices.Concat(full(9), want, full(9))) {
					t.Errorf("%d versions, {1, %d, %d}: laid is %x, want %x", have, n, part, d.Image()[256:512], want)
				}
				d.Power()
				wantPage(t, d, 1, want)
			}
		}
	}
}

// P3.2: the chapter's example.
func TestExample(t *testing.T) {
	d := made(t, 4)
	write(t, d, 1, 5, 6)
	if n := d.Crash(device.Keep{1, 1, 2}); n != 1 {
		t.Errorf("Crash = %d, want 1", n)
	}
	d.Power()
	wantPage(t, d, 1, slices.Concat([]byte{6, 6}, full(5)[2:]))
}

// P3.2: each page that is told keeps its own; no other page keeps anything.
func TestCrashOfSeveralPages(t *testing.T) {
	to := func() *device.Device {
		d := laid(t, 4, 9)
		write(t, d, 0, 10, 11)
		write(t, d, 1, 20, 21)
		write(t, d, 0, 12)
		write(t, d, 3, 30)
		return d
	}
	for i, c := range []struct {
		keep     []device.Keep
		survived int
		want     [4]byte
	}{
		{nil, 0, [4]byte{9, 9, 9, 9}},
		{[]device.Keep{{0, 2, 0}, {1, 1, 0}, {3, 1, 0}}, 4, [4]byte{11, 20, 9, 30}},
		{[]device.Keep{{3, 9, 9}, {1, 9, 9}, {0, 9, 9}}, 6, [4]byte{12, 21, 9, 30}},
		{[]device.Keep{{0, 0, 256}, {1, 1, 256}}, 1, [4]byte{10, 21, 9, 9}},
		{[]device.Keep{{0, 1, 0}, {0, 3, 0}}, 1, [4]byte{10, 9, 9, 9}},
		{[]device.Keep{{0, 3, 0}, {1, 2, 0}, {0, 1, 0}}, 5, [4]byte{12, 21, 9, 9}},
		{[]device.Keep{{0, 0, 0}, {0, 3, 0}}, 0, [4]byte{9, 9, 9, 9}},
		{[]device.Keep{{0, -1, -1}, {0, 3, 0}}, 0, [4]byte{9, 9, 9, 9}},
		{[]device.Keep{{0, 1, 0}, {0, 0, 256}}, 1, [4]byte{10, 9, 9, 9}},
		{[]device.Keep{{2, 1, 256}}, 0, [4]byte{9, 9, 9, 9}},
		{[]device.Keep{{4, 1, 256}, {-1, 1, 256}, {math.MinInt, 1, 1}, {math.MaxInt, 1, 1}}, 0, [4]byte{9, 9, 9, 9}},
		{[]device.Keep{{-1, 1, 256}, {3, 1, 256}}, 1, [4]byte{9, 9, 9, 30}},
	} {
		d := to()
		if got := d.Crash(c.keep...); got != c.survived {
			t.Errorf("case %d: Crash = %d, want %d", i, got, c.survived)
		}
		var want []byte
		for _, v := range c.want {
			want = append(want, full(v)...)
		}
		if !bytes.Equal(d.Image(), want) || d.Waiting() != 0 || d.On() {
			t.Errorf("case %d: Image is wrong, or Waiting %d, On %v", i, d.Waiting(), d.On())
		}
		d.Power()
		for no, v := range c.want {
			wantPage(t, d, no, full(v))
		}
	}
}

// P3.2: behind a crash nothing waits, so one more crash keeps nothing.
func TestCrashTwice(t *testing.T) {
	d := laid(t, 2, 9)
	write(t, d, 0, 1, 2)
	write(t, d, 1, 3)
	if n := d.Crash(device.Keep{0, 1, 0}); n != 1 {
		t.Errorf("Crash = %d, want 1", n)
	}
	if n := d.Crash(device.Keep{0, 9, 256}, device.Keep{1, 9, 256}); n != 0 {
		t.Errorf("the second Crash = %d, want 0", n)
	}
	d.Power()
	if n := d.Crash(device.Keep{0, 9, 256}, device.Keep{1, 9, 256}); n != 0 {
		t.Errorf("the third Crash = %d, want 0", n)
	}
	if !bytes.Equal(d.Image(), slices.Concat(full(1), full(9))) {
		t.Error("a crash with nothing that waits has laid something")
	}
}

// P3.2: armed with n, n writes and syncs are done, and the next one isn't: the power goes with it.
func TestArm(t *testing.T) {
	for n := range 5 {
		for kind, next := range []func(*device.Device) api.Errno{
			func(d *device.Device) api.Errno { return d.Write(0, full(2)) },
			func(d *device.Device) api.Errno { return d.Sync() },
		} {
			d := laid(t, 2, 9)
			write(t, d, 1, 1)
			d.Arm(n)
			for i := range n {
				if e := next(d); e != api.OK {
					t.Fatalf("kind %d, armed with %d: %d behind %d", kind, n, e, i)
				}
			}
			image, waiting := d.Image(), d.Waiting()
			if !d.On() {
				t.Fatalf("kind %d, armed with %d: off too soon", kind, n)
			}
			for range 2 {
				if e := next(d); e != api.ErrDown || d.On() {
					t.Errorf("kind %d, armed with %d: %d, On %v, want ErrDown, false", kind, n, e, d.On())
				}
			}
			if d.Waiting() != waiting || !bytes.Equal(d.Image(), image) {
				t.Errorf("kind %d, armed with %d: what isn't done has changed something", kind, n)
			}
			wantCounts(t, d, 0, 1+n*(1-kind), n*kind)
		}
	}
}

// P3.2: writes and syncs count together; reads and what is refused don't.
func TestArmedByWritesAndSyncs(t *testing.T) {
	d := laid(t, 2, 9)
	d.Arm(3)
	write(t, d, 0, 1)
	for range 5 {
		d.Read(0)
		d.Read(7)
		d.Write(2, full(1))
		d.Write(0, nil)
	}
	if e := d.Sync(); e != api.OK {
		t.Fatalf("Sync = %d, want OK", e)
	}
	write(t, d, 1, 2)
	wantPage(t, d, 1, full(2))
	if e := d.Write(0, full(3)); e != api.ErrDown || d.On() {
		t.Errorf("the fourth = %d, On %v, want ErrDown, false", e, d.On())
	}
	wantCounts(t, d, 6, 2, 1)
}

// P3.2: armed below 0 is not armed; the last Arm counts; what Arm tells doesn't switch the power.
func TestArmAnew(t *testing.T) {
	for _, n := range []int{-1, -2, math.MinInt} {
		d := made(t, 1)
		d.Arm(0)
		d.Arm(n)
		for range 50 {
			if d.Write(0, full(1)) != api.OK || d.Sync() != api.OK {
				t.Fatalf("Arm(%d): has to be not armed", n)
			}
		}
	}
	d := made(t, 1)
	d.Arm(1)
	write(t, d, 0, 1)
	d.Arm(2)
	write(t, d, 0, 2, 3)
	if !d.On() || d.Sync() != api.ErrDown || d.On() {
		t.Error("Arm(2) behind Arm(1): two have to be left")
	}
	d.Arm(5)
	if d.On() || d.Write(0, full(4)) != api.ErrDown {
		t.Error("Arm can't switch the power on")
	}
	d.Power()
	for range 9 {
		write(t, d, 0, 5)
	}
	d.Arm(math.MaxInt)
	write(t, d, 0, 5)
	d.Arm(0)
	if !d.On() || d.Waiting() != 10 {
		t.Errorf("Arm(0) can't switch the power off, nor lose what waits: %v, %d", d.On(), d.Waiting())
	}
}

// P3.2: what waits when the power goes because nothing is left goes on waiting, so that a crash may keep it.
func TestWhatWaitsWhenNothingIsLeft(t *testing.T) {
	to := func() *device.Device {
		d := laid(t, 2, 9)
		d.Arm(3)
		write(t, d, 0, 1, 2)
		write(t, d, 1, 3)
		if d.Sync() != api.ErrDown || d.On() || d.Waiting() != 3 {
			t.Fatalf("On %v, Waiting %d, want false, 3", d.On(), d.Waiting())
		}
		if !bytes.Equal(d.Image(), bytes.Repeat(full(9), 2)) {
			t.Fatal("a sync that isn't done has laid something")
		}
		return d
	}
	d := to()
	if n := d.Crash(device.Keep{0, 1, 100}, device.Keep{1, 1, 0}); n != 2 {
		t.Errorf("Crash = %d, want 2", n)
	}
	want := slices.Concat(full(2)[:100], full(1)[100:], full(3))
	if !bytes.Equal(d.Image(), want) {
		t.Error("the crash has laid something else")
	}
	d = to()
	d.Power()
	if d.Waiting() != 0 || !d.On() || !bytes.Equal(d.Image(), bytes.Repeat(full(9), 2)) {
		t.Errorf("Power: Waiting %d, On %v, want 0, true", d.Waiting(), d.On())
	}
	if n := d.Crash(device.Keep{0, 2, 0}); n != 0 {
		t.Errorf("what waited ahead of Power has survived: %d", n)
	}
}

// P3.2: Power switches on, loses what waits and disarms, behind a crash or without one.
func TestPower(t *testing.T) {
	for _, crash := range []bool{false, true} {
		d := laid(t, 2, 9)
		write(t, d, 0, 1)
		if e := d.Sync(); e != api.OK {
			t.Fatal(e)
		}
		write(t, d, 0, 2)
		write(t, d, 1, 3)
		d.Arm(1)
		if crash {
			d.Crash(device.Keep{1, 1, 0})
		}
		for range 2 {
			d.Power()
			if !d.On() || d.Waiting() != 0 {
				t.Errorf("Power: On %v, Waiting %d, want true, 0", d.On(), d.Waiting())
			}
		}
		wantPage(t, d, 0, full(1))
		if crash {
			wantPage(t, d, 1, full(3))
		} else {
			wantPage(t, d, 1, full(9))
		}
		write(t, d, 0, 4, 5, 6)
		if e := d.Sync(); e != api.OK {
			t.Errorf("behind Power it isn't armed: Sync = %d", e)
		}
		wantPage(t, d, 0, full(6))
	}
}

// P3.2: what was refused isn't counted, and nothing but these three calls is; a crash and Power don't begin anew.
func TestCounts(t *testing.T) {
	d := made(t, 2)
	write(t, d, 0, 1, 2)
	d.Read(0)
	d.Read(1)
	d.Read(1)
	d.Sync()
	wantCounts(t, d, 3, 2, 1)
	d.Read(2)
	d.Write(-1, full(1))
	d.Write(0, full(1)[1:])
	d.Image()
	d.Waiting()
	d.Pages()
	d.On()
	wantCounts(t, d, 3, 2, 1)
	d.Arm(0)
	d.Sync()
	d.Sync()
	d.Write(0, full(1))
	d.Read(0)
	wantCounts(t, d, 3, 2, 1)
	d.Crash(device.Keep{0, 1, 1})
	d.Power()
	d.Arm(0)
	d.Write(0, full(1))
	wantCounts(t, d, 3, 2, 1)
	d.Power()
	d.Read(0)
	write(t, d, 0, 1)
	d.Sync()
	wantCounts(t, d, 4, 3, 2)
	x, _ := device.Load(d.Image())
	wantCounts(t, x, 0, 0, 0)
}

// P3.2: reads may go on at the same time, and all of them are counted.
func TestReadsAtTheSameTime(t *testing.T) {
	d := laid(t, 2, 9)
	write(t, d, 0, 1)
	var all sync.WaitGroup
	for range 8 {
		all.Go(func() {
			for i := range 500 {
				if b, e := d.Read(i % 2); e != api.OK || len(b) != 256 {
					t.Errorf("Read = %d bytes, %d", len(b), e)
				}
			}
		})
	}
	all.Wait()
	wantCounts(t, d, 4000, 1, 0)
}

// P3.2: Image is what is laid, on or off, and a device loaded of it is the same.
func TestImage(t *testing.T) {
	d := made(t, 3)
	write(t, d, 0, 1)
	write(t, d, 2, 2)
	d.Sync()
	write(t, d, 1, 3)
	want := slices.Concat(full(1), full(0), full(2))
	if !bytes.Equal(d.Image(), want) {
		t.Error("Image has what waits, or not what is laid")
	}
	d.Crash(device.Keep{1, 0, 3})
	want = slices.Concat(full(1), full(3)[:3], full(0)[3:], full(2))
	if !bytes.Equal(d.Image(), want) || d.On() {
		t.Error("Image of a device that is off has to be what is laid")
	}
	x, e := device.Load(d.Image())
	if e != api.OK || !x.On() || !bytes.Equal(x.Image(), want) {
		t.Errorf("Load of an image: %d", e)
	}
	wantPage(t, x, 2, full(2))
}

// P3.3: what was synced is there behind every crash, but where something was written over it.
func TestSyncedStays(t *testing.T) {
	for seed := range 300 {
		c := chance(seed + 1000)
		pages := 1 + c.below(8)
		d := made(t, pages)
		for no := range pages {
			if d.Write(no, c.bytes(256)) != api.OK {
				t.Fatal("Write")
			}
		}
		if d.Sync() != api.OK {
			t.Fatal("Sync")
		}
		synced := d.Image()
		over := map[int]bool{}
		for range c.below(6) {
			no := c.below(pages)
			over[no] = true
			d.Write(no, c.bytes(256))
		}
		d.Crash(c.keeps(pages)...)
		d.Power()
		for no := range pages {
			if !over[no] {
				wantPage(t, d, no, synced[256*no:256*no+256])
			}
		}
	}
}

// P3.3: a nil device is down, and has nothing.
func TestNilDevice(t *testing.T) {
	var d *device.Device
	for range 2 {
		for _, no := range []int{math.MinInt, -1, 0, 1, math.MaxInt} {
			if b, e := d.Read(no); b != nil || e != api.ErrDown {
				t.Errorf("Read(%d) = %x %d, want nothing and ErrDown", no, b, e)
			}
			for _, b := range [][]byte{nil, full(1), full(1)[1:]} {
				if e := d.Write(no, b); e != api.ErrDown {
					t.Errorf("Write(%d, %d bytes) = %d, want ErrDown", no, len(b), e)
				}
			}
		}
		if e := d.Sync(); e != api.ErrDown {
			t.Errorf("Sync = %d, want ErrDown", e)
		}
		if d.Crash() != 0 || d.Crash(device.Keep{0, 1, 1}) != 0 {
			t.Error("Crash has to be 0")
		}
		if d.On() || d.Waiting() != 0 || d.Pages() != 0 || d.Image() != nil {
			t.Errorf("On %v, Waiting %d, Pages %d, Image %x, want false, 0, 0, nothing", d.On(), d.Waiting(), d.Pages(), d.Image())
		}
		wantCounts(t, d, 0, 0, 0)
		d.Arm(1)
		d.Arm(-1)
		d.Power()
	}
}

// P1: a Device that nobody made has no pages, and no call of it panics.
func TestZeroDevice(t *testing.T) {
	var d device.Device
	if _, e := d.Read(0); e != api.ErrDown || d.On() || d.Pages() != 0 || d.Sync() != api.ErrDown {
		t.Errorf("Read = %d, On %v, Pages %d, want ErrDown, false, 0", e, d.On(), d.Pages())
	}
	d.Power()
	if e := d.Write(0, full(1)); e != api.ErrRange {
		t.Errorf("Write = %d, want ErrRange", e)
	}
	d.Sync()
	if d.Crash(device.Keep{0, 1, 1}) != 0 || len(d.Image()) != 0 {
		t.Error("there is nothing to keep")
	}
}

// P3.3: what is handed in is neither kept nor changed.
func TestBytesAreNotKept(t *testing.T) {
	image := bytes.Repeat(full(7), 3)
	d, _ := device.Load(image)
	clear(image)
	wantPage(t, d, 2, full(7))
	b := make([]byte, 512)
	copy(b, full(1))
	d.Write(0, b[:256])
	d.Write(1, b[:256])
	clear(b)
	wantPage(t, d, 0, full(1))
	copy(b, full(2))
	d.Write(0, b[:256])
	clear(b)
	d.Sync()
	wantPage(t, d, 0, full(2))
	wantPage(t, d, 1, full(1))
	d.Write(0, full(3))
	d.Write(1, full(4))
	keep := []device.Keep{{1, -5, 999}, {0, 9, -9}, {0, 1, 1}}
	was := slices.Clone(keep)
	d.Crash(keep...)
	if !slices.Equal(keep, was) || !bytes.Equal(b, make([]byte, 512)) {
		t.Error("what was handed in was changed")
	}
	image = bytes.Repeat(full(7), 3)
	d, _ = device.Load(image)
	d.Write(1, full(8))
	d.Sync()
	d.Write(2, full(8))
	d.Crash(device.Keep{2, 1, 0})
	if !bytes.Equal(image, bytes.Repeat(full(7), 3)) {
		t.Error("the image that was handed in was changed")
	}
}

// P3.3: answers are new memory: they share none with the device, nor with each other.
func TestAnswersAreNewMemory(t *testing.T) {
	d := laid(t, 3, 7)
	write(t, d, 1, 1)
	spoil := func(b []byte) {
		b = b[:cap(b)]
		for i := range b {
			b[i] = 99
		}
	}
	for no, c := range []byte{7, 1, 7} {
		first, _ := d.Read(no)
		second, _ := d.Read(no)
		spoil(first)
		if !bytes.Equal(second, full(c)) {
			t.Errorf("two answers of page %d share memory", no)
		}
	}
	image := d.Image()
	spoil(image)
	for no, c := range []byte{7, 1, 7} {
		wantPage(t, d, no, full(c))
	}
	if !bytes.Equal(d.Image(), bytes.Repeat(full(7), 3)) {
		t.Error("the device's laid bytes were changed by an answer")
	}
	waits, _ := d.Read(1)
	image = d.Image()
	d.Sync()
	laidBytes, _ := d.Read(1)
	write(t, d, 1, 5)
	d.Sync()
	if !bytes.Equal(waits, full(1)) || !bytes.Equal(laidBytes, full(1)) || !bytes.Equal(image, bytes.Repeat(full(7), 3)) {
		t.Error("an answer was changed by the device")
	}
	x, _ := device.Load(image)
	x.Write(0, full(6))
	x.Sync()
	wantPage(t, d, 0, full(7))
}

// P2: devices are apart from each other, and the same calls have the same answers.
func TestSameCallsSameAnswers(t *testing.T) {
	run := func() []byte {
		var out []byte
		c := chance(5)
		d, other := made(t, 40), laid(t, 40, 3)
		tell := func(l ...int) {
			for _, n := range l {
				out = append(out, byte(n), byte(n>>8))
			}
		}
		for i := range 300 {
			no := c.below(42) - 1
			tell(int(d.Write(no, c.bytes(256))), int(other.Write(no, full(byte(i)))))
			switch c.below(10) {
			case 0:
				tell(int(d.Sync()))
			case 1:
				tell(d.Crash(c.keeps(40)...))
				out = append(out, d.Image()...)
				d.Power()
			}
			b, e := d.Read(no)
			out = append(append(out, b...), byte(e), byte(d.Waiting()))
		}
		tell(d.Counts())
		tell(other.Counts())
		return append(out, other.Image()...)
	}
	first := run()
	for range 3 {
		if !bytes.Equal(run(), first) {
			t.Error("the same calls had other answers")
		}
	}
}
