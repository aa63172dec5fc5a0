package alloc_test

import (
	"math"
	"slices"
	"testing"

	"incipit/alloc"
	"incipit/api"
	"incipit/bitmap"
)

// model is an allocator as the chapter's words tell it: of each page, its kind.
type model []int

// The kinds, as the chapter numbers them.
const (
	reserved, free, committed, shadow, pending, none = 0, 1, 2, 3, 4, 5
)

// modelOf: so many pages, all free but the reserved ones.
func modelOf(pages int) model {
	m := make(model, pages)
	for page := range m {
		m[page] = free
		if page < 2 {
			m[page] = reserved
		}
	}
	return m
}

// with: the same, but for these pages, which are of that kind.
func (m model) with(kind int, l ...int) model {
	r := slices.Clone(m)
	for _, page := range l {
		r[page] = kind
	}
	return r
}

// newModel: what New answers.
func newModel(pages int, l ...int) (model, api.Errno) {
	if pages < 2 || pages > 2048 {
		return nil, api.ErrArg
	}
	m := modelOf(pages)
	if !m.pages(l) {
		return nil, api.ErrRange
	}
	if toldTwice(l) {
		return nil, api.ErrTwice
	}
	return m.with(committed, l...), api.OK
}

func (m model) kind(page int) int {
	if page < 0 || page >= len(m) {
		return none
	}
	return m[page]
}

// all: the pages of these kinds, rising.
func (m model) all(kinds ...int) []int {
	var l []int
	for page, kind := range m {
		if slices.Contains(kinds, kind) {
			l = append(l, page)
		}
	}
	return l
}

// pages: is each of them a page from 2 on?
func (m model) pages(l []int) bool {
	for _, page := range l {
		if k := m.kind(page); k == none || k == reserved {
			return false
		}
	}
	return true
}

// one: is one of them of these kinds?
func (m model) one(l []int, kinds ...int) bool {
	for _, page := range l {
		if slices.Contains(kinds, m.kind(page)) {
			return true
		}
	}
	return false
}

func toldTwice(l []int) bool {
	sorted := slices.Sorted(slices.Values(l))
	return len(slices.Compact(sorted)) < len(l)
}

func (m model) take(n int) ([]int, api.Errno) {
	if n < 0 {
		return nil, api.ErrArg
	}
	l := m.all(free)
	if len(l) < n {
		return nil, api.ErrFull
	}
	for _, page := range l[:n] {
		m[page] = shadow
	}
	return l[:n], api.OK
}

func (m model) adopt(l ...int) api.Errno {
	if !m.pages(l) {
		return api.ErrRange
	}
	if toldTwice(l) || m.one(l, committed, shadow, pending) {
		return api.ErrTwice
	}
	for _, page := range l {
		m[page] = shadow
	}
	return api.OK
}

func (m model) give(l ...int) api.Errno {
	if !m.pages(l) {
		return api.ErrRange
	}
	if toldTwice(l) || m.one(l, free, pending) {
		return api.ErrState
	}
	for _, page := range l {
		switch m[page] {
		case shadow:
			m[page] = free
		case committed:
			m[page] = pending
		}
	}
	return api.OK
}

// turn: all pages of the one kind are free, all of the other committed; which ones are free now.
func (m model) turn(goes, stays int) []int {
	freed := m.all(goes)
	for page, kind := range m {
		switch kind {
		case goes:
			m[page] = free
		case stays:
			m[page] = committed
		}
	}
	return freed
}

func (m model) commit() []int { return m.turn(pending, shadow) }
func (m model) abort() []int  { return m.turn(shadow, pending) }

// beyond are no pages of any allocator.
var beyond = []int{math.MinInt, -1 << 32, -2049, -2048, -64, -2, -1, 2048, 2049, 4096, 1 << 32, math.MaxInt}

// made: an allocator as a model is.
func made(t *testing.T, m model) *alloc.Alloc {
	t.Helper()
	a, e := alloc.New(len(m), m.all(committed, pending)...)
	if a == nil || e != api.OK {
		t.Fatalf("New of %v: %v %d", m, a, e)
	}
	if e := a.Adopt(m.all(shadow)...); e != api.OK {
		t.Fatalf("Adopt of %v: %d", m, e)
	}
	if e := a.Give(m.all(pending)...); e != api.OK {
		t.Fatalf("Give of %v: %d", m, e)
	}
	return a
}

// agree: whatever is asked of the allocator, it is as the model.
func agree(t *testing.T, what string, a *alloc.Alloc, m model) {
	t.Helper()
	if a == nil {
		t.Fatalf("%s: no allocator", what)
	}
	if a.Pages() != len(m) || a.Free() != len(m.all(free)) {
		t.Fatalf("%s: %d pages, %d free, want %d and %d", what, a.Pages(), a.Free(), len(m), len(m.all(free)))
	}
	for page := -3; page < len(m)+3; page++ {
		if a.Kind(page) != m.kind(page) {
			t.Fatalf("%s of %d: Kind(%d) = %d, want %d", what, len(m), page, a.Kind(page), m.kind(page))
		}
	}
	for _, page := range beyond {
		if a.Kind(page) != none {
			t.Fatalf("%s of %d: Kind(%d) = %d, want %d", what, len(m), page, a.Kind(page), none)
		}
	}
	c, s, p := a.Sets()
	wantSet(t, what+": committed", c, m, committed, pending)
	wantSet(t, what+": shadow", s, m, shadow)
	wantSet(t, what+": pending", p, m, pending)
	parted(t, what, a)
}

func wantSet(t *testing.T, what string, s *bitmap.Set, m model, kinds ...int) {
	t.Helper()
	if s.Size() != len(m) || !slices.Equal(s.All(), m.all(kinds...)) {
		t.Fatalf("%s is %v of %d, want %v of %d", what, s.All(), s.Size(), m.all(kinds...), len(m))
	}
}

// parted: free, committed and shadow pages are all but the first two, each one once; what is pending is committed.
func parted(t *testing.T, what string, a *alloc.Alloc) {
	t.Helper()
	c, s, p := a.Sets()
	var l []int
	for page := range a.Pages() {
		if a.Kind(page) == alloc.Free {
			l = append(l, page)
		}
	}
	if len(l) != a.Free() {
		t.Fatalf("%s: %v are free, and Free() = %d", what, l, a.Free())
	}
	l = append(append(l, c.All()...), s.All()...)
	slices.Sort(l)
	if !slices.Equal(l, count(2, a.Pages()-2)) {
		t.Fatalf("%s: free, committed and shadow pages are %v of %d", what, l, a.Pages())
	}
	if bitmap.Without(p, c).Count() != 0 {
		t.Fatalf("%s: %v are pending, of %v", what, p.All(), c.All())
	}
}

// count: so many numbers from a first one on.
func count(first, n int) []int {
	var l []int
	for i := range n {
		l = append(l, first+i)
	}
	return l
}

// each: all allocators of so many pages.
func each(pages int, do func(m model)) {
	m := modelOf(pages)
	var from func(page int)
	from = func(page int) {
		if page >= pages {
			do(slices.Clone(m))
			return
		}
		for _, m[page] = range []int{free, committed, shadow, pending} {
			from(page + 1)
		}
	}
	from(2)
}

// lists: all lists of up to so many of these numbers.
func lists(most int, of []int, do func(l []int)) {
	var more func(l []int)
	more = func(l []int) {
		do(slices.Clone(l))
		if len(l) == most {
			return
		}
		for _, no := range of {
			more(append(slices.Clone(l), no))
		}
	}
	more(nil)
}

// few: all allocators of few pages.
func few(do func(m model)) {
	for pages := 2; pages <= 6; pages++ {
		each(pages, do)
	}
}

// dice has no chance in it: the same numbers each time.
type dice uint32

func (d *dice) below(n int) int {
	*d = *d*1664525 + 1013904223
	return int(*d>>8) % n
}

// thrown: of so many pages, each of some kind.
func (d *dice) thrown(pages int) model {
	m := modelOf(pages)
	for page := 2; page < pages; page++ {
		m[page] = []int{free, committed, shadow, pending}[d.below(4)]
	}
	return m
}

// great: allocators of pages at the edges of words and of all.
func great(do func(m model)) {
	for _, pages := range []int{7, 8, 9, 63, 64, 65, 66, 67, 127, 128, 129, 130, 1000, 2047, 2048} {
		d := dice(pages)
		last := pages - 1
		m := modelOf(pages)
		for _, x := range []model{
			m, m.with(committed, last), m.with(shadow, last), m.with(pending, last),
			m.with(committed, 2), m.with(shadow, 2), m.with(pending, 2, last),
			m.with(committed, count(2, pages-2)...), m.with(shadow, count(2, pages-2)...), m.with(pending, count(2, pages-2)...),
			m.with(committed, count(2, pages-3)...), m.with(shadow, count(3, pages-3)...),
			d.thrown(pages), d.thrown(pages),
		} {
			do(x)
		}
	}
}
