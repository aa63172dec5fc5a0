package bitmap_test

import (
	"math"
	"slices"
	"testing"

	"incipit/api"
	"incipit/bitmap"
)

func wantNone(t *testing.T, what string, s *bitmap.Set, e, want api.Errno) {
	t.Helper()
	if s != nil || e != want {
		t.Errorf("%s = %v %d, want no set and %d", what, s, e, want)
	}
}

// The chapter's example.
func TestExample(t *testing.T) {
	s, e := bitmap.New(8, 0, 1, 2, 5)
	if e != api.OK {
		t.Fatal(e)
	}
	if r := s.Runs(); !slices.Equal(r, []bitmap.Run{{From: 0, Count: 3}, {From: 5, Count: 1}}) {
		t.Errorf("Runs() = %v", r)
	}
	if b := s.Bytes(); !slices.Equal(b, []byte{0x27}) {
		t.Errorf("Bytes() = %x", b)
	}
	if no, e := s.Free(0); no != 3 || e != api.OK {
		t.Errorf("Free(0) = %d %d", no, e)
	}
}

// P6.1: there is a set of each size from 1 to 2048, and of no other.
func TestSizes(t *testing.T) {
	for size := 1; size <= 2048; size++ {
		s, e := bitmap.New(size, size-1, size)
		if e != api.OK || s.Size() != size || !slices.Equal(s.All(), []int{size - 1}) {
			t.Fatalf("New(%d) = %v %d", size, s, e)
		}
	}
	for _, size := range noSizes {
		s, e := bitmap.New(size, 0, 1)
		wantNone(t, "New", s, e, api.ErrArg)
		// ErrArg is named ahead of what is wrong with the bytes.
		for _, b := range [][]byte{nil, {}, {0}, {255}, make([]byte, 256), make([]byte, 257)} {
			s, e := bitmap.Parse(size, b)
			wantNone(t, "Parse", s, e, api.ErrArg)
		}
	}
}

// P6.1: New takes the numbers that can be in it, and passes over all others.
func TestNew(t *testing.T) {
	for _, size := range sizes {
		agree(t, "New of nothing", made(t, modelOf(size)), modelOf(size))
		for _, no := range about(size) {
			for _, l := range [][]int{{no}, {no, no}, {no, 0, no}, {size, no, -1}} {
				s, e := bitmap.New(size, l...)
				if e != api.OK {
					t.Fatalf("New(%d, %v): %d", size, l, e)
				}
				agree(t, "New", s, modelOf(size, l...))
			}
		}
		s, _ := bitmap.New(size, about(size)...)
		agree(t, "New of all edges", s, modelOf(size, about(size)...))
	}
	eachModel(func(m model) { agree(t, "New", made(t, m), m) })
}

// P6.1: how many were put in that weren't there, and taken out that were.
func TestAddAndDropOfOne(t *testing.T) {
	s, _ := bitmap.New(65, 0, 63)
	for i, c := range []struct {
		do   func(l ...int) int
		l    []int
		want int
		all  []int
	}{
		{s.Add, nil, 0, []int{0, 63}},
		{s.Drop, nil, 0, []int{0, 63}},
		{s.Add, []int{63}, 0, []int{0, 63}},
		{s.Add, []int{64}, 1, []int{0, 63, 64}},
		{s.Add, []int{1, 1, 1}, 1, []int{0, 1, 63, 64}},
		{s.Add, []int{0, 2, 64, 2, 3}, 2, []int{0, 1, 2, 3, 63, 64}},
		{s.Add, []int{-1, 65, 128, math.MinInt, math.MaxInt}, 0, []int{0, 1, 2, 3, 63, 64}},
		{s.Drop, []int{-1, 65, 128, math.MinInt, math.MaxInt}, 0, []int{0, 1, 2, 3, 63, 64}},
		{s.Drop, []int{5}, 0, []int{0, 1, 2, 3, 63, 64}},
		{s.Drop, []int{64, 64}, 1, []int{0, 1, 2, 3, 63}},
		{s.Drop, []int{3, 5, -64, 2, 3, 65}, 2, []int{0, 1, 63}},
		{s.Drop, []int{63, 1, 0}, 3, nil},
		{s.Drop, []int{63, 1, 0}, 0, nil},
		{s.Add, count(-10, 100, 1), 65, count(0, 65, 1)},
		{s.Drop, count(-10, 100, 1), 65, nil},
	} {
		if n := c.do(c.l...); n != c.want || !slices.Equal(s.All(), c.all) {
			t.Errorf("%d: with %v answered %d, want %d; then %v, want %v", i, c.l, n, c.want, s.All(), c.all)
		}
	}
}

// P6.1, P6.3: what is added is in it till it is dropped, through many calls on sets of all sizes.
func TestAddAndDrop(t *testing.T) {
	for _, size := range sizes {
		d := dice(size)
		m := modelOf(size)
		s := made(t, m)
		for range 300 {
			l := make([]int, d.below(12))
			for i := range l {
				l[i] = d.below(size+20) - 10
			}
			if d.below(5) == 0 {
				l = append(l, about(size)...)
			}
			got, want := 0, 0
			if d.below(2) == 0 {
				got, want = s.Add(l...), m.add(l...)
			} else {
				got, want = s.Drop(l...), m.drop(l...)
			}
			if got != want {
				t.Fatalf("of %d: %v answered %d, want %d", size, l, got, want)
			}
		}
		agree(t, "many calls", s, m)
	}
}

// P6.1: each number alone is in it, and no other.
func TestEachNumberAlone(t *testing.T) {
	for _, size := range []int{1, 7, 8, 9, 63, 64, 65, 129} {
		s := made(t, modelOf(size))
		for no := range size {
			if s.Add(no) != 1 {
				t.Fatalf("Add(%d) of %d isn't 1", no, size)
			}
			for other := -2; other < size+66; other++ {
				if s.Has(other) != (other == no) {
					t.Fatalf("%d is in it: Has(%d) of %d = %v", no, other, size, s.Has(other))
				}
			}
			if !slices.Equal(s.Runs(), []bitmap.Run{{From: no, Count: 1}}) {
				t.Fatalf("of %d: Runs() = %v", no, s.Runs())
			}
			if s.Drop(no) != 1 || s.Count() != 0 {
				t.Fatalf("Drop(%d) of %d isn't 1", no, size)
			}
		}
	}
}

// P6.3: runs are all its numbers, rising, none beside another.
func TestRuns(t *testing.T) {
	for _, c := range []struct {
		size int
		l    []int
		want []bitmap.Run
	}{
		{1, nil, nil},
		{1, []int{0}, []bitmap.Run{{From: 0, Count: 1}}},
		{64, count(0, 64, 1), []bitmap.Run{{From: 0, Count: 64}}},
		{65, count(0, 65, 1), []bitmap.Run{{From: 0, Count: 65}}},
		{2048, count(0, 2048, 1), []bitmap.Run{{From: 0, Count: 2048}}},
		{2048, []int{2047}, []bitmap.Run{{From: 2047, Count: 1}}},
		{2048, []int{0, 2047}, []bitmap.Run{{From: 0, Count: 1}, {From: 2047, Count: 1}}},
		{128, []int{62, 63, 64, 65}, []bitmap.Run{{From: 62, Count: 4}}},
		{128, []int{63, 64}, []bitmap.Run{{From: 63, Count: 2}}},
		{128, []int{62, 63, 65, 66}, []bitmap.Run{{From: 62, Count: 2}, {From: 65, Count: 2}}},
		{9, []int{7, 8}, []bitmap.Run{{From: 7, Count: 2}}},
		{9, []int{8, 0, 2, 4, 6}, []bitmap.Run{{From: 0, Count: 1}, {From: 2, Count: 1}, {From: 4, Count: 1}, {From: 6, Count: 1}, {From: 8, Count: 1}}},
	} {
		s, _ := bitmap.New(c.size, c.l...)
		if got := s.Runs(); !slices.Equal(got, c.want) {
			t.Errorf("Runs() of %v = %v, want %v", c.l, got, c.want)
		}
	}
	eachModel(func(m model) {
		var l []int
		for _, r := range made(t, m).Runs() {
			if r.Count < 1 || m.has(r.From-1) || m.has(r.From+r.Count) {
				t.Fatalf("of %v: no run: %v", m.all(true), r)
			}
			l = append(l, count(r.From, r.Count, 1)...)
		}
		if !slices.Equal(l, m.all(true)) {
			t.Fatalf("of %v: the runs are %v", m.all(true), l)
		}
	})
}

// P6.1: a set's bytes are parsed to the same set.
func TestBytesParsed(t *testing.T) {
	eachModel(func(m model) {
		s := made(t, m)
		p, e := bitmap.Parse(len(m), s.Bytes())
		if e != api.OK || !bitmap.Same(p, s) || !slices.Equal(p.Bytes(), s.Bytes()) {
			t.Fatalf("Parse(%d, %x) = %v %d", len(m), s.Bytes(), p, e)
		}
		agree(t, "Parse", p, m)
	})
}

// P6.1: bytes that are too few, too many, or have a bit of no number.
func TestParseOfOtherBytes(t *testing.T) {
	for _, size := range sizes {
		for _, m := range models(size) {
			b := m.bytes()
			for _, wrong := range [][]byte{nil, {}, b[:len(b)-1], b[1:], append(slices.Clone(b), 0), append(slices.Clone(b), 1), append(slices.Clone(b), b...)} {
				s, e := bitmap.Parse(size, wrong)
				wantNone(t, "Parse", s, e, api.ErrForm)
			}
			for bit := size % 8; bit > 0 && bit < 8; bit++ {
				wrong := slices.Clone(b)
				wrong[len(b)-1] |= 1 << bit
				s, e := bitmap.Parse(size, wrong)
				wantNone(t, "Parse of a bit of no number", s, e, api.ErrForm)
			}
		}
	}
}

// P6.1: a last byte of each value, with sizes of each rest by eight.
func TestParseOfEveryLastByte(t *testing.T) {
	for _, size := range []int{1, 2, 3, 4, 5, 6, 7, 8, 9, 57, 58, 63, 64, 65, 66, 71, 72, 73, 127, 128, 2041, 2046, 2047, 2048} {
		for last := range 256 {
			b := make([]byte, (size+7)/8)
			b[0], b[len(b)-1] = 1, byte(last)
			m, want := parsed(size, b)
			s, e := bitmap.Parse(size, b)
			if e != want {
				t.Fatalf("Parse(%d, %x): %d, want %d", size, b, e, want)
			}
			if want != api.OK {
				wantNone(t, "Parse", s, e, want)
				continue
			}
			agree(t, "Parse", s, m)
		}
	}
}

// P6.1: bytes of each length up to beyond the greatest, for each size.
func TestParseOfEveryLength(t *testing.T) {
	for _, size := range sizes {
		for n := range 300 {
			s, e := bitmap.Parse(size, make([]byte, n))
			if n == (size+7)/8 {
				agree(t, "Parse of zeros", s, modelOf(size))
			} else {
				wantNone(t, "Parse", s, e, api.ErrForm)
			}
		}
	}
}

// P6.2: from each number, and from beyond both ends.
func TestLowestAndFree(t *testing.T) {
	eachModel(func(m model) {
		s := made(t, m)
		froms := about(len(m))
		if len(m) < 200 {
			froms = append(froms, count(-3, len(m)+70, 1)...)
		}
		for _, from := range froms {
			want, wantE := m.lowest(true, from)
			if no, e := s.Lowest(from); no != want || e != wantE {
				t.Fatalf("Lowest(%d) of %v of %d = %d %d, want %d %d", from, m.all(true), len(m), no, e, want, wantE)
			}
			want, wantE = m.lowest(false, from)
			if no, e := s.Free(from); no != want || e != wantE {
				t.Fatalf("Free(%d) of %v of %d = %d %d, want %d %d", from, m.all(true), len(m), no, e, want, wantE)
			}
		}
	})
}

// P6.2: an empty set has no lowest one, a full one none that is free; what is behind its size isn't free.
func TestLowestAndFreeOfEmptyAndFull(t *testing.T) {
	for _, size := range sizes {
		empty, full := made(t, modelOf(size)), made(t, modelOf(size, count(0, size, 1)...))
		for _, from := range about(size) {
			want, wantE := max(from, 0), api.OK
			if from >= size {
				want, wantE = 0, api.ErrNone
			}
			if no, e := empty.Lowest(from); no != 0 || e != api.ErrNone {
				t.Fatalf("empty, of %d: Lowest(%d) = %d %d", size, from, no, e)
			}
			if no, e := full.Free(from); no != 0 || e != api.ErrNone {
				t.Fatalf("full, of %d: Free(%d) = %d %d", size, from, no, e)
			}
			if no, e := empty.Free(from); no != want || e != wantE {
				t.Fatalf("empty, of %d: Free(%d) = %d %d", size, from, no, e)
			}
			if no, e := full.Lowest(from); no != want || e != wantE {
				t.Fatalf("full, of %d: Lowest(%d) = %d %d", size, from, no, e)
			}
		}
	}
}

// P6.2: all pairs of models of these sizes, the one smaller or greater than the other.
func TestTwoSets(t *testing.T) {
	few := []int{1, 7, 8, 9, 63, 64, 65, 100, 128}
	for _, size := range few {
		for _, other := range few {
			for _, m := range models(size) {
				for _, n := range models(other) {
					twoSets(t, m, n)
				}
			}
		}
	}
	for _, m := range models(2048) {
		for _, n := range append(models(65), models(2047)...) {
			twoSets(t, m, n)
			twoSets(t, n, m)
		}
	}
}

func twoSets(t *testing.T, m, n model) {
	t.Helper()
	a, b := made(t, m), made(t, n)
	agree(t, "Union", bitmap.Union(a, b), m.filtered(func(no int) bool { return m.has(no) || n.has(no) }))
	agree(t, "Common", bitmap.Common(a, b), m.filtered(func(no int) bool { return m.has(no) && n.has(no) }))
	agree(t, "Without", bitmap.Without(a, b), m.filtered(func(no int) bool { return m.has(no) && !n.has(no) }))
	if want := slices.Equal(m, n); bitmap.Same(a, b) != want {
		t.Fatalf("Same of %v of %d and %v of %d isn't %v", a.All(), a.Size(), b.All(), b.Size(), want)
	}
	// What they came from is as it was.
	if !slices.Equal(a.Bytes(), m.bytes()) || !slices.Equal(b.Bytes(), n.bytes()) {
		t.Fatalf("a set was changed: %v, %v", a.All(), b.All())
	}
}

// P6.2: what lies beyond the first set's size is no part of what is answered, nor comes back with it.
func TestGreaterSetsAreCut(t *testing.T) {
	a, _ := bitmap.New(3, 0)
	b, _ := bitmap.New(2048, count(0, 2048, 1)...)
	u := bitmap.Union(a, b)
	agree(t, "Union", u, modelOf(3, 0, 1, 2))
	if no, e := u.Free(0); no != 0 || e != api.ErrNone {
		t.Errorf("Free(0) = %d %d", no, e)
	}
	u.Drop(count(0, 3, 1)...)
	agree(t, "Union, and dropped", u, modelOf(3))
	if !bitmap.Same(u, made(t, modelOf(3))) {
		t.Error("an emptied set isn't an empty one")
	}
	if no, e := u.Lowest(0); no != 0 || e != api.ErrNone {
		t.Errorf("Lowest(0) = %d %d", no, e)
	}
}

// P6.2: Union of one alone, and of several, of other sizes and nil ones among them.
func TestUnionOfSeveral(t *testing.T) {
	of := func(size int, l ...int) *bitmap.Set { return made(t, modelOf(size, l...)) }
	a := of(100, 3, 99)
	for i, c := range []struct {
		l    []*bitmap.Set
		want []int
	}{
		{nil, []int{3, 99}},
		{[]*bitmap.Set{nil}, []int{3, 99}},
		{[]*bitmap.Set{nil, nil, nil}, []int{3, 99}},
		{[]*bitmap.Set{a}, []int{3, 99}},
		{[]*bitmap.Set{a, a}, []int{3, 99}},
		{[]*bitmap.Set{of(4, 0, 3)}, []int{0, 3, 99}},
		{[]*bitmap.Set{of(2048, 5, 100, 127, 2047)}, []int{3, 5, 99}},
		{[]*bitmap.Set{of(65, 64), nil, of(1, 0), of(128, 98, 99, 100, 127)}, []int{0, 3, 64, 98, 99}},
		{[]*bitmap.Set{nil, of(100), of(101, 100), of(102, 1, 100, 101)}, []int{1, 3, 99}},
		{[]*bitmap.Set{of(100, 1), of(100, 2), of(100, 4), of(100, 1, 2)}, []int{1, 2, 3, 4, 99}},
	} {
		agree(t, "Union", bitmap.Union(a, c.l...), modelOf(100, c.want...))
		agree(t, "the first set", a, modelOf(100, 3, 99))
		if u := bitmap.Union(nil, c.l...); u != nil {
			t.Errorf("%d: Union of nil and others: %v", i, u)
		}
	}
}

// P6.2: with itself.
func TestASetWithItself(t *testing.T) {
	eachModel(func(m model) {
		a := made(t, m)
		agree(t, "Union", bitmap.Union(a, a), m)
		agree(t, "Common", bitmap.Common(a, a), m)
		agree(t, "Without", bitmap.Without(a, a), modelOf(len(m)))
		agree(t, "the set", a, m)
		if !bitmap.Same(a, a) {
			t.Fatal("it isn't the same as itself")
		}
	})
}

// P6.2: Common and Without of nil sets.
func TestCommonAndWithoutNil(t *testing.T) {
	eachModel(func(m model) {
		a := made(t, m)
		agree(t, "Common with nil", bitmap.Common(a, nil), modelOf(len(m)))
		agree(t, "Without nil", bitmap.Without(a, nil), m)
		agree(t, "Union with nil", bitmap.Union(a, nil), m)
		agree(t, "the set", a, m)
		if bitmap.Common(nil, a) != nil || bitmap.Without(nil, a) != nil || bitmap.Union(nil, a) != nil {
			t.Fatal("of nil: a set")
		}
	})
	if bitmap.Common(nil, nil) != nil || bitmap.Without(nil, nil) != nil || bitmap.Union(nil) != nil || bitmap.Union(nil, nil) != nil {
		t.Error("of nil alone: a set")
	}
}

// P6.2: the same size and the same numbers.
func TestSame(t *testing.T) {
	of := func(size int, l ...int) *bitmap.Set { return made(t, modelOf(size, l...)) }
	for i, c := range []struct {
		a, b *bitmap.Set
		want bool
	}{
		{nil, nil, true},
		{nil, of(1), false},
		{nil, of(2048), false},
		{nil, of(8, 1), false},
		{of(8), of(8), true},
		{of(8), of(9), false},
		{of(63), of(64), false},
		{of(64), of(65), false},
		{of(8, 1, 5), of(8, 5, 1, 5), true},
		{of(8, 1, 5), of(7, 1, 5), false},
		{of(64, 1, 5), of(65, 1, 5), false},
		{of(8, 1, 5), of(8, 1), false},
		{of(8, 1, 5), of(8, 1, 6), false},
		{of(2048, 2047), of(2048, 2047), true},
		{of(2048, 2047), of(2048), false},
		{of(2048, 2047), of(2048, 2046), false},
		{of(130, 0), of(130, 64), false},
	} {
		if bitmap.Same(c.a, c.b) != c.want || bitmap.Same(c.b, c.a) != c.want {
			t.Errorf("%d: Same isn't %v", i, c.want)
		}
	}
}

// P6.3: every call on a nil set.
func TestNil(t *testing.T) { wantNothing(t, nil) }

// P1: the zero Set is of no size; nothing can be in it, and nothing panics.
func TestZeroSet(t *testing.T) {
	s := &bitmap.Set{}
	wantNothing(t, s)
	full := made(t, modelOf(65, count(0, 65, 1)...))
	for i, from := range []*bitmap.Set{s.Copy(), bitmap.Union(s, full, s, nil), bitmap.Common(s, full), bitmap.Without(s, full)} {
		if from == nil || !bitmap.Same(from, s) {
			t.Errorf("%d: isn't as the zero Set", i)
		}
		wantNothing(t, from)
	}
	agree(t, "Union with the zero Set", bitmap.Union(full, s), modelOf(65, count(0, 65, 1)...))
	agree(t, "Common with the zero Set", bitmap.Common(full, s), modelOf(65))
	agree(t, "Without the zero Set", bitmap.Without(full, s), modelOf(65, count(0, 65, 1)...))
}

func wantNothing(t *testing.T, s *bitmap.Set) {
	t.Helper()
	if s.Add() != 0 || s.Drop() != 0 || s.Count() != 0 || s.Size() != 0 || len(s.All()) != 0 || len(s.Runs()) != 0 || len(s.Bytes()) != 0 {
		t.Error("it has something")
	}
	if s == nil && s.Copy() != nil {
		t.Error("the copy of nil is something")
	}
	for _, no := range about(64) {
		if s.Add(no, no) != 0 || s.Has(no) || s.Drop(no) != 0 {
			t.Errorf("%d was in it", no)
		}
		if got, e := s.Lowest(no); got != 0 || e != api.ErrNone {
			t.Errorf("Lowest(%d) = %d %d", no, got, e)
		}
		if got, e := s.Free(no); got != 0 || e != api.ErrNone {
			t.Errorf("Free(%d) = %d %d", no, got, e)
		}
	}
}
