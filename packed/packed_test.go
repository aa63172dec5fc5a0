package packed_test

import (
	"bytes"
	"math"
	"slices"
	"testing"

	"incipit/api"
	"incipit/packed"
)

// The chapter's example.
func TestExample(t *testing.T) {
	a, e := packed.New(3, 5, 1, 7)
	if e != api.OK {
		t.Fatal(e)
	}
	if b := a.Bytes(); !bytes.Equal(b, []byte{0x03, 0x03, 0xcd, 0x01}) {
		t.Errorf("Bytes() = %x", b)
	}
	p, rest, e := packed.Parse([]byte{0x03, 0x03, 0xcd, 0x01})
	if e != api.OK || len(rest) != 0 || !slices.Equal(p.All(), []int{5, 1, 7}) {
		t.Errorf("Parse = %v %x %d", p.All(), rest, e)
	}
}

// P12.1: how many bits a number has, at least 1; 0 of one that no array has.
func TestWidth(t *testing.T) {
	for _, c := range []struct{ greatest, want int }{
		{math.MinInt, 0}, {-1 << 31, 0}, {-256, 0}, {-2, 0}, {-1, 0},
		{0, 1}, {1, 1}, {2, 2}, {3, 2}, {4, 3}, {7, 3}, {8, 4}, {255, 8}, {256, 9},
		{1<<30 - 1, 30}, {1 << 30, 31}, {1<<31 - 1, 31},
		{1 << 31, 0}, {1<<31 + 1, 0}, {1<<32 - 1, 0}, {1 << 32, 0}, {1<<32 + 5, 0}, {math.MaxInt, 0},
	} {
		if got := packed.Width(c.greatest); got != c.want {
			t.Errorf("Width(%d) = %d, want %d", c.greatest, got, c.want)
		}
	}
	for exp := range 63 {
		for _, n := range []int{1<<exp - 2, 1<<exp - 1, 1 << exp, 1<<exp + 1, -1 << exp} {
			if got, want := packed.Width(n), slowWidth(n); got != want {
				t.Errorf("Width(%d) = %d, want %d", n, got, want)
			}
		}
	}
	for n := range 5000 {
		if got, want := packed.Width(n), slowWidth(n); got != want {
			t.Errorf("Width(%d) = %d, want %d", n, got, want)
		}
	}
}

// P12.1: there is an array of each width from 1 to 31, and of no other, whatever the numbers.
func TestNewOfEachWidth(t *testing.T) {
	eachModel(func(m model) { agree(t, "New", made(t, m), m) })
	long := make([]int, 65537)
	for _, width := range noWidths {
		// ErrArg is named ahead of what is wrong with the numbers.
		for _, l := range [][]int{nil, {0}, {1, 2}, {-1}, {math.MaxInt}, {0, math.MinInt}, long} {
			a, e := packed.New(width, l...)
			wantNone(t, "New of no width", a, e, api.ErrArg)
		}
	}
}

// P12.1: the numbers of an array are those from 0 up to what its width holds.
func TestNewNamesWrongNumbers(t *testing.T) {
	for width := 1; width <= 31; width++ {
		agree(t, "New", made(t, model{width, []int{top(width), 0, top(width) - 1, 1}}), model{width, []int{top(width), 0, top(width) - 1, 1}})
		for _, n := range beyond(width) {
			for _, l := range [][]int{{n}, {n, 0}, {0, n}, {0, n, 1}, {1, 1, n, n}} {
				a, e := packed.New(width, l...)
				wantNone(t, "New of a wrong number", a, e, api.ErrRange)
			}
		}
	}
}

// P12.1: an array has 65536 numbers, and not one more; ErrRange is named ahead of that.
func TestNewOfMany(t *testing.T) {
	for _, width := range []int{1, 3, 7, 8, 13, 16, 31} {
		d := dice(width)
		l := d.list(width, 65538)
		a, e := packed.New(width, l[:65535]...)
		if e != api.OK || !slices.Equal(a.All(), l[:65535]) {
			t.Errorf("width %d: 65535 numbers: %d", width, e)
		}
		a, e = packed.New(width, l[:65536]...)
		if e != api.OK || a.Len() != 65536 || !slices.Equal(a.All(), l[:65536]) {
			t.Errorf("width %d: 65536 numbers: %d", width, e)
		}
		if want := (model{width, l[:65536]}).bytes(); !bytes.Equal(a.Bytes(), want) {
			t.Errorf("width %d: the bytes of 65536 numbers are others", width)
		}
		for n := 65537; n <= 65538; n++ {
			a, e := packed.New(width, l[:n]...)
			wantNone(t, "New of too many", a, e, api.ErrLong)
			for _, i := range []int{0, 70, 65535, 65536} {
				wrong := slices.Clone(l[:n])
				wrong[i] = top(width) + 1
				a, e := packed.New(width, wrong...)
				wantNone(t, "New of too many, one of them too great", a, e, api.ErrRange)
				wrong[i] = -1
				a, e = packed.New(width, wrong...)
				wantNone(t, "New of too many, one of them below 0", a, e, api.ErrRange)
			}
		}
	}
}

// P12.1: Fit's array is of the width of its greatest number, 1 without any.
func TestFit(t *testing.T) {
	for _, c := range []struct {
		l     []int
		width int
	}{
		{nil, 1}, {[]int{}, 1}, {[]int{0}, 1}, {[]int{1}, 1}, {[]int{0, 0, 0}, 1}, {[]int{0, 1}, 1},
		{[]int{2}, 2}, {[]int{3, 1}, 2}, {[]int{1, 4, 0}, 3}, {[]int{255}, 8}, {[]int{256, 255}, 9},
		{[]int{1<<31 - 1}, 31}, {[]int{0, 1<<31 - 1, 0}, 31}, {[]int{1 << 30}, 31}, {[]int{1<<30 - 1, 3}, 30},
	} {
		a, e := packed.Fit(c.l...)
		if e != api.OK {
			t.Fatalf("Fit(%v): %d", c.l, e)
		}
		agree(t, "Fit", a, model{c.width, c.l})
	}
	eachModel(func(m model) {
		a, e := packed.Fit(m.l...)
		if e != api.OK {
			t.Fatalf("Fit(%v): %d", m.l, e)
		}
		agree(t, "Fit", a, model{slowWidth(max(0, slices.Max(append([]int{0}, m.l...)))), m.l})
	})
}

// P12.1: Fit's errors: ErrRange ahead of ErrLong.
func TestFitNamesErrors(t *testing.T) {
	for _, n := range noNumbers {
		for _, l := range [][]int{{n}, {n, 0}, {0, n}, {1<<31 - 1, n}, {5, n, 1<<31 - 1}} {
			a, e := packed.Fit(l...)
			wantNone(t, "Fit of a wrong number", a, e, api.ErrRange)
		}
		for _, count := range []int{65536, 65537} {
			for _, i := range []int{0, 1000, count - 1} {
				l := same(3, count)
				l[i] = n
				a, e := packed.Fit(l...)
				wantNone(t, "Fit of many, one of them wrong", a, e, api.ErrRange)
			}
		}
	}
	for _, n := range []int{0, 1, 5, 1<<31 - 1} {
		a, e := packed.Fit(same(n, 65536)...)
		if e != api.OK || a.Width() != slowWidth(n) || !slices.Equal(a.All(), same(n, 65536)) {
			t.Errorf("Fit of 65536 times %d: %d", n, e)
		}
		for _, count := range []int{65537, 65538, 70000} {
			a, e := packed.Fit(same(n, count)...)
			wantNone(t, "Fit of too many", a, e, api.ErrLong)
		}
	}
}

// P12.1: so many bytes as the bits must have; 0, if there is no such array.
func TestSize(t *testing.T) {
	for width := 1; width <= 31; width++ {
		for n := range 300 {
			if got, want := packed.Size(width, n), len(gathered(make([]byte, width*n))); got != want {
				t.Fatalf("Size(%d, %d) = %d, want %d", width, n, got, want)
			}
		}
		for _, n := range []int{65535, 65536} {
			want := width * n / 8
			if width*n%8 != 0 {
				want++
			}
			if got := packed.Size(width, n); got != want {
				t.Errorf("Size(%d, %d) = %d, want %d", width, n, got, want)
			}
		}
		for _, n := range []int{math.MinInt, -65536, -8, -1, 65537, 65538, 1 << 32, 1 << 59, math.MaxInt} {
			if got := packed.Size(width, n); got != 0 {
				t.Errorf("Size(%d, %d) = %d, want 0", width, n, got)
			}
		}
	}
	for _, width := range noWidths {
		for _, n := range []int{math.MinInt, -1, 0, 1, 8, 64, 65536, 65537, math.MaxInt} {
			if got := packed.Size(width, n); got != 0 {
				t.Errorf("Size(%d, %d) = %d, want 0", width, n, got)
			}
		}
	}
	if got := packed.Size(3, 3); got != 2 {
		t.Errorf("Size(3, 3) = %d, want 2", got)
	}
}

// P12.2, P12.3: what is set is there, at every place, and its neighbours are as they were.
func TestSetOfEachPlace(t *testing.T) {
	for width := 1; width <= 31; width++ {
		d := dice(width)
		for _, fill := range []int{0, top(width)} {
			m := model{width, same(fill, 140)}
			a := made(t, m)
			for i := range m.l {
				for _, n := range []int{top(width) - fill, fill, d.number(width), top(width) / 3, 1, top(width) - 1} {
					if e := a.Set(i, n); e != m.set(i, n) || e != api.OK {
						t.Fatalf("width %d: Set(%d, %d) = %d", width, i, n, e)
					}
					if got := a.All(); !slices.Equal(got, m.l) {
						t.Fatalf("width %d: Set(%d, %d): then %v, want %v", width, i, n, got, m.l)
					}
				}
				a.Set(i, top(width)-fill)
				m.set(i, top(width)-fill)
				agree(t, "behind Set", a, m)
				a.Set(i, fill)
				m.set(i, fill)
			}
			agree(t, "behind all", a, m)
		}
	}
}

// P12.2: at places that aren't there, and of numbers that can't be, Set answers ErrRange and changes nothing.
func TestSetNamesErrors(t *testing.T) {
	eachModel(func(m model) {
		if len(m.l) > 65 {
			return
		}
		a := made(t, m)
		wrong := beyond(m.width)
		for _, i := range off(len(m.l)) {
			for _, n := range []int{0, 1, top(m.width), top(m.width) + 1, -1} {
				if e := a.Set(i, n); e != api.ErrRange {
					t.Fatalf("of %d: Set(%d, %d) = %d", len(m.l), i, n, e)
				}
			}
		}
		for i := range m.l {
			for _, n := range wrong {
				if e := a.Set(i, n); e != api.ErrRange {
					t.Fatalf("width %d: Set(%d, %d) = %d", m.width, i, n, e)
				}
			}
		}
		agree(t, "behind wrong Sets", a, m)
	})
}

// P12.2: the first and the last place of a full array.
func TestPlacesOfMany(t *testing.T) {
	for _, width := range []int{1, 3, 5, 13, 31} {
		d := dice(width)
		m := model{width, d.list(width, 65536)}
		a := made(t, m)
		for _, i := range []int{-1, 65536, 65537} {
			if _, e := a.At(i); e != api.ErrRange || a.Set(i, 0) != api.ErrRange {
				t.Errorf("width %d: there is a place %d", width, i)
			}
		}
		for _, i := range []int{0, 1, 12345, 65534, 65535} {
			if e := a.Set(i, top(width)-m.l[i]); e != api.OK || m.set(i, top(width)-m.l[i]) != e {
				t.Errorf("width %d: Set(%d): %d", width, i, e)
			}
		}
		if !slices.Equal(a.All(), m.l) {
			t.Errorf("width %d: other numbers than those set", width)
		}
	}
}

// P12.2: what is added stands behind, however it is parted.
func TestAdd(t *testing.T) {
	eachModel(func(m model) {
		for _, cut := range []int{0, 1, len(m.l) / 2, len(m.l) - 1, len(m.l)} {
			cut = min(max(cut, 0), len(m.l))
			a := made(t, model{m.width, m.l[:cut]})
			if e := a.Add(m.l[cut:]...); e != api.OK {
				t.Fatalf("Add(%v) = %d", m.l[cut:], e)
			}
			if e := a.Add(); e != api.OK {
				t.Fatalf("Add() = %d", e)
			}
			agree(t, "Add", a, m)
		}
		a, _ := packed.New(m.width)
		for _, n := range m.l {
			if e := a.Add(n); e != api.OK {
				t.Fatalf("Add(%d) = %d", n, e)
			}
		}
		agree(t, "Add one by one", a, m)
		if !packed.Same(a, made(t, m)) {
			t.Fatal("what is added isn't the same as what it is made of")
		}
	})
}

// P12.2: with one wrong number none is added.
func TestAddNamesWrongNumbers(t *testing.T) {
	for width := 1; width <= 31; width++ {
		for _, n := range []int{0, 1, 5, 64} {
			d := dice(width)
			m := model{width, d.list(width, n)}
			a := made(t, m)
			for _, wrong := range beyond(width) {
				for _, l := range [][]int{{wrong}, {wrong, 0}, {0, wrong}, {1, 1, wrong, 0}, append(same(top(width), 100), wrong)} {
					if e := a.Add(l...); e != api.ErrRange {
						t.Fatalf("width %d: Add(%v) = %d", width, l, e)
					}
				}
			}
			agree(t, "behind wrong Adds", a, m)
			if e := a.Add(top(width), 0); e != api.OK || m.add(top(width), 0) != e {
				t.Fatal(e)
			}
			agree(t, "Add behind wrong ones", a, m)
		}
	}
}

// P12.2: as many are added as come to 65536, and not one more; ErrRange is named ahead of that.
func TestAddOfMany(t *testing.T) {
	for _, width := range []int{1, 7, 8, 31} {
		d := dice(width)
		l := d.list(width, 65537)
		for _, cut := range []int{0, 1, 30000, 65535, 65536} {
			a := made(t, model{width, l[:cut]})
			was := a.Copy()
			if e := a.Add(l[cut:]...); e != api.ErrLong || !packed.Same(a, was) {
				t.Errorf("width %d: Add of one too many behind %d: %d, %d then", width, cut, e, a.Len())
			}
			if e := a.Add(l...); e != api.ErrLong || !packed.Same(a, was) {
				t.Errorf("width %d: Add of 65537 behind %d: %d, %d then", width, cut, e, a.Len())
			}
			for _, wrong := range []int{-1, top(width) + 1} {
				if e := a.Add(append(slices.Clone(l[cut:]), wrong)...); e != api.ErrRange || !packed.Same(a, was) {
					t.Errorf("width %d: Add of too many and a wrong one behind %d: %d", width, cut, e)
				}
			}
			if e := a.Add(l[cut:65536]...); e != api.OK || !slices.Equal(a.All(), l[:65536]) {
				t.Errorf("width %d: Add up to 65536 behind %d: %d, %d then", width, cut, e, a.Len())
			}
			if e := a.Add(); e != api.OK {
				t.Errorf("width %d: Add of nothing to a full one: %d", width, e)
			}
			if e := a.Add(0); e != api.ErrLong {
				t.Errorf("width %d: Add to a full one: %d", width, e)
			}
			if e := a.Add(top(width) + 1); e != api.ErrRange || a.Len() != 65536 {
				t.Errorf("width %d: Add of a wrong one to a full one: %d", width, e)
			}
		}
	}
}

// P12.2: Same holds widths and numbers against each other.
func TestSame(t *testing.T) {
	eachModel(func(m model) {
		a := made(t, m)
		for _, b := range []*packed.Array{a, made(t, m), a.Copy()} {
			if !packed.Same(a, b) || !packed.Same(b, a) {
				t.Fatalf("width %d: %v isn't the same as itself", m.width, m.l)
			}
		}
		if packed.Same(a, nil) || packed.Same(nil, a) {
			t.Fatal("an array is the same as none")
		}
		longer := m.copied()
		longer.add(0)
		others := []model{longer}
		if m.width < 31 {
			others = append(others, model{m.width + 1, m.l})
		}
		if len(m.l) > 0 {
			others = append(others, model{m.width, m.l[:len(m.l)-1]}, model{m.width, m.l[1:]})
		}
		for i := range m.l {
			other := m.copied()
			other.l[i] ^= 1 << (i % m.width)
			others = append(others, other)
		}
		for _, other := range others {
			b := made(t, other)
			if packed.Same(a, b) || packed.Same(b, a) {
				t.Fatalf("width %d, %v is the same as width %d, %v", m.width, m.l, other.width, other.l)
			}
		}
	})
	one, _ := packed.New(1)
	two, _ := packed.New(2)
	if packed.Same(one, two) || packed.Same(one, nil) || packed.Same(nil, two) || !packed.Same(nil, nil) {
		t.Error("empty ones of two widths, and none")
	}
	// Their bits are the same.
	one, _ = packed.New(1, 1, 0, 1, 0)
	two, _ = packed.New(2, 1, 1)
	if packed.Same(one, two) {
		t.Error("1 0 1 0 of one bit each is the same as 1 1 of two")
	}
}

// P12.2: what was set back is the same as what was never changed.
func TestSameBehindSet(t *testing.T) {
	eachModel(func(m model) {
		a := made(t, m)
		for i := range m.l {
			a.Set(i, top(m.width)-m.l[i])
		}
		for i := range m.l {
			a.Set(i, m.l[i])
		}
		if !packed.Same(a, made(t, m)) {
			t.Fatalf("width %d: %v isn't the same behind Set", m.width, m.l)
		}
	})
}

// P12.3: what is set and added in any order is read as a plain list would be.
func TestAnyOrder(t *testing.T) {
	for width := 1; width <= 31; width++ {
		d := dice(width * 1000)
		m := model{width: width}
		a := made(t, m)
		for range 600 {
			got, want := api.OK, api.OK
			n := d.number(width)
			if d.below(12) == 0 {
				n = beyond(width)[d.below(len(beyond(width)))]
			}
			switch d.below(5) {
			case 0:
				l := d.list(width, d.below(4))
				if d.below(4) == 0 {
					l = append(l, n)
				}
				got, want = a.Add(l...), m.add(l...)
			case 1:
				a = a.Copy()
			case 2:
				p, rest, e := packed.Parse(append(a.Bytes(), 0xFF))
				if e != api.OK || !bytes.Equal(rest, []byte{0xFF}) || !packed.Same(a, p) {
					t.Fatalf("width %d: Parse: %d", width, e)
				}
				a = p
			default:
				i := d.below(len(m.l)+4) - 2
				got, want = a.Set(i, n), m.set(i, n)
			}
			if got != want {
				t.Fatalf("width %d: %d, want %d", width, got, want)
			}
			i := d.below(len(m.l)+4) - 2
			gotAt, got := a.At(i)
			wantAt, want := m.at(i)
			if gotAt != wantAt || got != want {
				t.Fatalf("width %d: At(%d) = %d %d, want %d %d", width, i, gotAt, got, wantAt, want)
			}
		}
		agree(t, "behind many calls", a, m)
		if !packed.Same(a, made(t, m)) {
			t.Fatalf("width %d: isn't the same behind many calls", width)
		}
	}
}

// P12.3: a nil array answers ErrState ahead of all, 0, nothing.
func TestNilArray(t *testing.T) {
	var a *packed.Array
	for _, i := range []int{math.MinInt, -1, 0, 1, math.MaxInt} {
		if n, e := a.At(i); n != 0 || e != api.ErrState {
			t.Errorf("At(%d) = %d %d", i, n, e)
		}
		for _, n := range []int{math.MinInt, -1, 0, 1, math.MaxInt} {
			if e := a.Set(i, n); e != api.ErrState {
				t.Errorf("Set(%d, %d) = %d", i, n, e)
			}
			if e := a.Add(i, n); e != api.ErrState {
				t.Errorf("Add(%d, %d) = %d", i, n, e)
			}
		}
	}
	for _, l := range [][]int{nil, {0}, make([]int, 65536), make([]int, 65537)} {
		if e := a.Add(l...); e != api.ErrState {
			t.Errorf("Add of %d = %d", len(l), e)
		}
	}
	if a.Len() != 0 || a.Width() != 0 || len(a.All()) != 0 || len(a.Bytes()) != 0 || a.Copy() != nil {
		t.Errorf("%d %d %v %x %v", a.Len(), a.Width(), a.All(), a.Bytes(), a.Copy())
	}
	if !packed.Same(a, nil) || !packed.Same(nil, a) || !packed.Same(a, a.Copy()) || packed.Same(a, new(packed.Array)) {
		t.Error("Same of none")
	}
}

// P1: the zero Array is of no width; no number can be in it, and nothing panics.
func TestZeroArray(t *testing.T) {
	a := new(packed.Array)
	for _, n := range append([]int{0, 1, 2, 1<<31 - 1}, noNumbers...) {
		for _, l := range [][]int{{n}, {n, 0}, {0, n}} {
			if e := a.Add(l...); e != api.ErrRange {
				t.Errorf("Add(%v) = %d", l, e)
			}
		}
		for _, i := range append(off(0), 0) {
			if e := a.Set(i, n); e != api.ErrRange {
				t.Errorf("Set(%d, %d) = %d", i, n, e)
			}
		}
	}
	if e := a.Add(make([]int, 65537)...); e != api.ErrRange {
		t.Errorf("Add of too many = %d", e)
	}
	if e := a.Add(); e != api.OK {
		t.Errorf("Add() = %d", e)
	}
	agree(t, "the zero Array", a, model{})
	agree(t, "its copy", a.Copy(), model{})
	one, _ := packed.New(1)
	if !packed.Same(a, a.Copy()) || !packed.Same(a, new(packed.Array)) || packed.Same(a, one) || packed.Same(one, a) || packed.Same(nil, a) {
		t.Error("Same of the zero Array")
	}
	if p, rest, e := packed.Parse(a.Bytes()); p != nil || rest != nil || e != api.ErrForm {
		t.Errorf("Parse of its bytes = %v %x %d", p, rest, e)
	}
}
