package flip_test

import (
	"bytes"
	"math"
	"testing"

	"incipit/api"
	"incipit/device"
	"incipit/flip"
)

// starts: the two pages ahead of a flip.
func starts(t *testing.T) [][2][]byte {
	t.Helper()
	empty := make([]byte, 256)
	at := func(epoch int) []byte {
		return page(t, flip.Super{Epoch: epoch, Root: 2 + epoch%7, Shadow: 3, Stamp: epoch % 1000})
	}
	return [][2][]byte{
		{empty, empty},
		{empty, at(1)},
		{at(2), at(1)},
		{at(2), at(3)},
		{at(2), empty},
		{at(256), at(255)},
		{at(1<<32 - 2), at(1<<32 - 3)},
		{at(1<<32 - 4), at(1<<32 - 3)},
		// An earlier flip was torn.
		{at(2), torn(at(1), at(3), 20)},
		{at(2), torn(at(1), at(3), 250)},
		{torn(at(2), at(4), 9), at(3)},
		{empty, torn(empty, at(1), 252)},
		{torn(empty, at(2), 254), at(1)},
	}
}

// parts: how much of a version may survive, at all the edges of a frame's bytes.
func parts() []int {
	l := []int{math.MinInt, -1, 257, math.MaxInt}
	for n := range 257 {
		if n < 22 || n > 244 || n%31 == 0 {
			l = append(l, n)
		}
	}
	return l
}

// keeps: what a crash keeps of both pages.
func keeps() [][]device.Keep {
	l := [][]device.Keep{
		nil,
		{{Page: 0, N: 1}},
		{{Page: 1, N: 1}},
		{{Page: 0, N: 1}, {Page: 1, N: 1}},
		{{Page: 1, N: 9, Part: 3}, {Page: 0, N: math.MaxInt, Part: 256}},
		{{Page: 0}, {Page: 1}},
		// The first Keep of a page counts.
		{{Page: 0}, {Page: 0, N: 1}, {Page: 1, Part: 20}, {Page: 1, N: 1}},
		{{Page: 2, N: 1}, {Page: 3, N: 1}},
	}
	for _, part := range parts() {
		l = append(l,
			[]device.Keep{{Page: 0, Part: part}, {Page: 1, Part: part}},
			[]device.Keep{{Page: 1, Part: part}, {Page: 0, N: 1}, {Page: 3, N: 1}},
			[]device.Keep{{Page: 0, N: -1, Part: part}, {Page: 1, N: 1, Part: part}},
		)
	}
	return l
}

// kept: what is laid of a page behind a crash, of which one version waited.
func kept(old, new []byte, no int, keep []device.Keep) []byte {
	for _, k := range keep {
		switch {
		case k.Page != no:
			continue
		case k.N > 0:
			return new
		}
		return torn(old, new, max(0, min(k.Part, 256)))
	}
	return old
}

// state is the two pages as they are laid, and what counts of them.
type state struct {
	pages [2][]byte
	super flip.Super
	there bool
}

func stateOf(zero, one []byte) state {
	s, there := counts(zero, one)
	return state{[2][]byte{zero, one}, s, there}
}

// behind: the state behind a flip with so many writes and syncs left (below 0: no end of them), a crash and power.
func (a state) behind(next flip.Super, b []byte, left int, keep []device.Keep) state {
	if left == 0 {
		return a
	}
	no := pageOf(next.Epoch)
	if left == 1 {
		b = kept(a.pages[no], b, no, keep)
	}
	a.pages[no] = b
	return stateOf(a.pages[0], a.pages[1])
}

// crashed: a flip, a crash and power; what counts is the one ahead or the new one, and just what the crash kept tells which.
func crashed(t *testing.T, d *device.Device, a state, s flip.Super, left int, keep []device.Keep) state {
	t.Helper()
	next := s
	next.Epoch = a.super.Epoch + 1
	want := a.behind(next, page(t, next), left, keep)
	d.Arm(left)
	got, e := flip.Flip(d, s)
	if left == 0 || left == 1 {
		wantError(t, "Flip", got, e, api.ErrDown)
	} else {
		wantSuper(t, "Flip", got, e, next)
	}
	d.Crash(keep...)
	if _, e := flip.Find(d); e != api.ErrDown {
		t.Errorf("Find without power: %d", e)
	}
	d.Power()
	found, f := flip.Find(d)
	isAhead := found == a.super && (f == api.OK) == a.there
	isNew := found == next && f == api.OK
	if !isNew && (!isAhead || e == api.OK) {
		t.Errorf("found is %v %d, neither %v nor %v; Flip: %d", found, f, a.super, next, e)
	}
	wantFound(t, "Find behind the crash", d, want.super, want.there)
	if !bytes.Equal(laid(d, 0), want.pages[0]) || !bytes.Equal(laid(d, 1), want.pages[1]) {
		t.Errorf("the pages aren't what the crash keeps of the flip to %v", next)
	}
	if t.Failed() {
		t.Fatalf("%d left, kept %v, from %v", left, keep, a.super)
	}
	return want
}

// P5.3: the power goes at each count of calls, and a crash keeps all sorts of both pages.
func TestCrashesOfOneFlip(t *testing.T) {
	s := flip.Super{Root: 77, Shadow: 78, Stamp: 79}
	for _, start := range starts(t) {
		for left := -1; left < 4; left++ {
			for _, keep := range keeps() {
				d := loaded(t, start[0], start[1])
				d.Write(3, make([]byte, 256))
				a := crashed(t, d, stateOf(start[0], start[1]), s, left, keep)
				// It goes on from what counts now.
				next := s
				next.Epoch = a.super.Epoch + 1
				if next.Epoch < 1<<32 {
					flipped(t, d, s, next)
				}
			}
		}
	}
}

// P5.3: of each count of bytes that are torn.
func TestEveryTear(t *testing.T) {
	old, ahead := flip.Super{Epoch: 3, Root: 5}, flip.Super{Epoch: 4, Root: 6}
	for part := range 257 {
		d := loaded(t, page(t, ahead), page(t, old))
		keep := []device.Keep{{Page: 1, Part: part}, {Page: 0, Part: part}}
		a := crashed(t, d, stateOf(page(t, ahead), page(t, old)), flip.Super{Root: 7}, 1, keep)
		if whole := a.super.Epoch == 5; whole != (part == 256) && part < 253 {
			t.Errorf("of %d bytes %v counts", part, a.super)
		}
	}
}

// P5.3: many flips and crashes, one behind the other, of which each starts from what the last one left.
func TestManyCrashes(t *testing.T) {
	seed := uint32(1)
	below := func(n int) int {
		seed = seed*1664525 + 1013904223
		return int(seed>>8) % n
	}
	lists := keeps()
	for range 20 {
		d := loaded(t, make([]byte, 256), make([]byte, 256))
		a := stateOf(make([]byte, 256), make([]byte, 256))
		for range 200 {
			s := flip.Super{Epoch: below(9), Root: 2 + below(2046), Shadow: 2 * below(1000), Stamp: below(1 << 20)}
			a = crashed(t, d, a, s, below(5)-1, lists[below(len(lists))])
		}
	}
}

// P2: the same calls have the same answers.
func TestTheSameAgain(t *testing.T) {
	run := func() []byte {
		d := loaded(t, make([]byte, 256), make([]byte, 256))
		for n := range 50 {
			d.Arm(n%4 - 1)
			flip.Flip(d, flip.Super{Root: 2 + n, Stamp: n})
			if n%4 == 1 || n%4 == 2 {
				d.Crash(device.Keep{Page: n % 2, Part: n})
				d.Power()
			}
		}
		return d.Image()
	}
	if !bytes.Equal(run(), run()) {
		t.Error("two runs differ")
	}
}
