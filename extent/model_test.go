package extent_test

import (
	"math"
	"slices"
	"testing"

	"incipit/api"
	"incipit/extent"
	"incipit/varint"
)

type list = []extent.Extent

// x: an extent.
func x(from, count int) extent.Extent { return extent.Extent{From: from, Count: count} }

// beyond is numbers far from all pages.
func beyond() []int {
	return []int{math.MinInt, math.MinInt + 1, -1 << 32, -2048, 2049, 4096, 1 << 16, 1<<32 + 5, math.MaxInt - 2, math.MaxInt - 1, math.MaxInt}
}

// slowPages: the pages of extents, one by one; false, if an extent isn't as it must be.
func slowPages(l list) ([]int, bool) {
	var pages []int
	for _, e := range l {
		if e.Count < 1 || e.Count > 2046 || e.From < 2 || e.From > 2047 || e.From+e.Count-1 > 2047 {
			return nil, false
		}
		for page := e.From; page < e.From+e.Count; page++ {
			pages = append(pages, page)
		}
	}
	return pages, true
}

func toldTwice(pages []int) bool {
	return len(slices.Compact(slices.Sorted(slices.Values(pages)))) < len(pages)
}

// slowOf goes as the chapter's words say it: an extent begins at each page that isn't the one behind the one ahead.
func slowOf(pages []int) (list, api.Errno) {
	for _, page := range pages {
		if page < 2 || page > 2047 {
			return nil, api.ErrRange
		}
	}
	if len(pages) > 1024 {
		return nil, api.ErrLong
	}
	if toldTwice(pages) {
		return nil, api.ErrTwice
	}
	var l list
	for i := 0; i < len(pages); {
		n := 1
		for i+n < len(pages) && pages[i+n] == pages[i]+n {
			n++
		}
		l = append(l, x(pages[i], n))
		i += n
	}
	return l, api.OK
}

func slowCheck(l list) api.Errno {
	pages, ok := slowPages(l)
	if !ok {
		return api.ErrRange
	}
	if len(pages) > 1024 {
		return api.ErrLong
	}
	if toldTwice(pages) {
		return api.ErrTwice
	}
	for i := 1; i < len(l); i++ {
		if l[i].From == l[i-1].From+l[i-1].Count {
			return api.ErrForm
		}
	}
	return api.OK
}

func slowJoin(l []list) (list, api.Errno) {
	var all []int
	for _, part := range l {
		if e := slowCheck(part); e != api.OK {
			return nil, e
		}
		pages, _ := slowPages(part)
		all = append(all, pages...)
	}
	return slowOf(all)
}

// numbers: what a list's bytes tell.
func numbers(l list) []int {
	var n []int
	for _, e := range l {
		n = append(n, e.From, e.Count)
	}
	return n
}

// count: n numbers from the first one on.
func count(from, n int) []int {
	var l []int
	for i := range n {
		l = append(l, from+i)
	}
	return l
}

// evens: n even pages, so many extents.
func evens(n int) list {
	var l list
	for i := range n {
		l = append(l, x(2+2*i, 1))
	}
	return l
}

// falling: n pages down from the last one, so many extents.
func falling(n int) list {
	var l list
	for i := range n {
		l = append(l, x(2047-i, 1))
	}
	return l
}

// rights: lists as they must be, short, and up to the limits.
func rights() []list {
	return []list{
		nil,
		{},
		{x(2, 1)}, {x(2, 2)}, {x(3, 1)}, {x(2046, 1)}, {x(2046, 2)}, {x(2047, 1)},
		{x(2, 1023)}, {x(2, 1024)}, {x(1024, 1023)}, {x(1024, 1024)}, {x(1000, 1024)},
		{x(5, 3), x(2, 1)}, {x(9, 2), x(3, 1), x(11, 1)}, {x(2047, 1), x(2, 1)}, {x(2, 1), x(2047, 1)},
		{x(6, 1), x(5, 1), x(4, 1)},               // each one begins ahead of the one ahead of it
		{x(7, 1), x(4, 3)},                        // the other way round it isn't short
		{x(2, 3), x(9, 1), x(5, 2)},               // the last one begins where the first one ends, but not that ahead of it
		{x(40, 3), x(30, 3), x(44, 1), x(20, 10)}, // as before
		{x(100, 64), x(300, 1), x(40, 60), x(2000, 48)},
		{x(2, 1022), x(2046, 2)}, {x(1025, 1023), x(2, 1)}, {x(1026, 512), x(2, 512)},
		{x(1025, 512), x(2, 511)},
		evens(1022), evens(1023), append(list{x(2047, 1)}, evens(1023)...),
		falling(3), falling(1023), falling(1024),
	}
}

// faulty: lists that are wrong in one way, by that.
func faulty() map[api.Errno][]list {
	return map[api.Errno][]list{
		api.ErrRange: {
			{x(0, 0)}, {x(1, 1)}, {x(0, 1)}, {x(-1, 1)}, {x(1, 2)}, {x(0, 2048)}, {x(2, 0)}, {x(2, -1)}, {x(2047, 0)}, {x(5, 0)},
			{x(2, 2047)}, {x(2046, 3)}, {x(2047, 2)}, {x(2048, 1)}, {x(2048, 0)}, {x(2049, 1)}, {x(2047, 2048)},
			{x(2, math.MaxInt)}, {x(2047, math.MaxInt)}, {x(math.MaxInt, 1)}, {x(math.MaxInt, math.MaxInt)}, {x(math.MinInt, math.MinInt)},
			{x(math.MinInt, 1)}, {x(5, math.MinInt)}, {x(math.MaxInt, math.MinInt)}, {x(math.MinInt, math.MaxInt)}, {x(-2, math.MaxInt)}, {x(1<<32+5, 1)}, {x(5, 1<<32+1)},
			{x(5, 1), x(9, 0)}, {x(9, 0), x(5, 1)}, {x(5, 1), x(2048, 1), x(9, 1)}, {x(5, 1), x(1, 1)},
		},
		api.ErrLong: {
			{x(2, 1025)}, {x(1023, 1025)}, {x(2, 2046)}, {x(2, 1024), x(2000, 1)}, {x(2000, 1), x(2, 1024)},
			{x(2, 512), x(1000, 513)}, {x(1000, 513), x(2, 512)}, {x(2, 1), x(1023, 1024)}, falling(1025), falling(2046),
			append(evens(1023), x(2047-1000, 1), x(2047-1002, 1)),
		},
		api.ErrTwice: {
			{x(5, 1), x(5, 1)}, {x(5, 2), x(5, 2)}, {x(5, 1), x(9, 1), x(5, 1)}, {x(2, 1), x(2, 1)}, {x(2047, 1), x(2047, 1)},
			{x(5, 4), x(8, 3)},                     // the end of the one, the start of the other
			{x(8, 3), x(5, 4)},                     // the other way round
			{x(5, 4), x(5, 1)}, {x(5, 1), x(5, 4)}, // at the start alone
			{x(5, 4), x(8, 1)}, {x(8, 1), x(5, 4)}, // at the end alone
			{x(5, 4), x(6, 2)}, {x(6, 2), x(5, 4)}, // within
			{x(4, 3), x(6, 1)}, {x(2, 512), x(2, 512)}, // as a whole
			{x(5, 4), x(20, 3), x(30, 1), x(7, 1)},
			{x(2, 1023), x(1024, 1)}, {x(1024, 1), x(2, 1023)}, append(falling(1023), x(2000, 1)), append(list{x(3, 1), x(3, 1)}, falling(1022)...),
		},
		api.ErrForm: {
			{x(4, 3), x(7, 1)}, {x(2, 1), x(3, 1)}, {x(2046, 1), x(2047, 1)}, {x(2, 512), x(514, 512)}, {x(2, 1023), x(1025, 1)},
			{x(5, 1), x(6, 1), x(7, 1)}, {x(5, 1), x(6, 1), x(20, 1)}, {x(20, 1), x(5, 1), x(6, 1)}, {x(20, 1), x(5, 2), x(7, 3), x(2, 1)},
			{x(9, 1), x(2, 3), x(5, 2)}, append(falling(1022), x(3, 1), x(4, 1)),
		},
	}
}

// everyList: all lists of up to n extents of few first pages and counts.
func everyList(n int, do func(l list)) {
	var grow func(l list)
	grow = func(l list) {
		do(l)
		if len(l) == n {
			return
		}
		for _, from := range []int{1, 2, 3, 4, 5, 2046, 2047, 2048} {
			for _, count := range []int{0, 1, 2, 3} {
				grow(append(l[:len(l):len(l)], x(from, count)))
			}
		}
	}
	grow(nil)
}

// dice is numbers that are the same in each run.
type dice uint64

func (d *dice) below(n int) int {
	*d = *d*6364136223846793005 + 1442695040888963407
	return int(uint64(*d) >> 33 % uint64(n))
}

// pages: n pages, none twice, some of them one behind the other.
func (d *dice) pages(n int) []int {
	all := count(2, 2046)
	var l []int
	for len(l) < n {
		i := d.below(len(all))
		m := min(1+d.below(9), n-len(l), len(all)-i)
		if d.below(4) == 0 {
			m = 1
		}
		l = append(l, all[i:i+m]...)
		all = slices.Delete(all, i, i+m)
	}
	return l
}

// agree: all that is told of the list is the model's.
func agree(t *testing.T, l list) {
	t.Helper()
	want := slowCheck(l)
	if e := extent.Check(l...); e != want {
		t.Fatalf("Check(%v): %d, want %d", l, e, want)
	}
	var pages []int
	if want == api.OK {
		pages, _ = slowPages(l)
	}
	if got := extent.Pages(l...); !slices.Equal(got, pages) {
		t.Fatalf("Pages(%v) = %v, want %v", l, got, pages)
	}
	if n := extent.Count(l...); n != len(pages) {
		t.Fatalf("Count(%v) = %d, want %d", l, n, len(pages))
	}
	agreeEncode(t, l, want)
	n := len(pages)
	for _, i := range append([]int{-2, -1, 0, 1, n / 2, n - 2, n - 1, n, n + 1, n + 2, 1023, 1024, 1025}, beyond()...) {
		agreeAt(t, l, i, pages, want)
	}
	for _, page := range append([]int{-1, 0, 1, 2, 3, 4, 1000, 2046, 2047, 2048}, beyond()...) {
		agreeFind(t, l, page, pages, want)
	}
}

func agreeEncode(t *testing.T, l list, want api.Errno) {
	t.Helper()
	var bytes []byte
	if want == api.OK {
		bytes = varint.List(numbers(l))
	}
	if b, e := extent.Encode(l...); !slices.Equal(b, bytes) || e != want {
		t.Fatalf("Encode(%v) = %v %d, want %v %d", l, b, e, bytes, want)
	}
}

// agreeAt: of the list, whose pages and whose error of Check these are.
func agreeAt(t *testing.T, l list, i int, pages []int, wrong api.Errno) {
	t.Helper()
	page, want := 0, wrong
	if wrong == api.OK {
		want = api.ErrRange
		if i >= 0 && i < len(pages) {
			page, want = pages[i], api.OK
		}
	}
	if got, e := extent.At(l, i); got != page || e != want {
		t.Fatalf("At(%v, %d) = %d %d, want %d %d", l, i, got, e, page, want)
	}
}

// agreeFind: of the list, whose pages and whose error of Check these are.
func agreeFind(t *testing.T, l list, page int, pages []int, wrong api.Errno) {
	t.Helper()
	place, want := 0, wrong
	if wrong == api.OK {
		want = api.ErrNone
		for i, p := range pages {
			if p == page {
				place, want = i, api.OK
			}
		}
	}
	if got, e := extent.Find(l, page); got != place || e != want {
		t.Fatalf("Find(%v, %d) = %d %d, want %d %d", l, page, got, e, place, want)
	}
}

// agreePart: of the list, whose pages and whose error of Check these are.
func agreePart(t *testing.T, l list, from, to int, pages []int, wrong api.Errno) {
	t.Helper()
	var part list
	want := wrong
	if wrong == api.OK {
		want = api.ErrRange
		if 0 <= from && from <= to && to <= len(pages) {
			part, want = slowOf(pages[from:to])
		}
	}
	if got, e := extent.Part(l, from, to); !slices.Equal(got, part) || e != want {
		t.Fatalf("Part(%v, %d, %d) = %v %d, want %v %d", l, from, to, got, e, part, want)
	}
}

func agreeOf(t *testing.T, pages ...int) {
	t.Helper()
	want, wantE := slowOf(pages)
	if l, e := extent.Of(pages...); !slices.Equal(l, want) || e != wantE {
		t.Fatalf("Of(%v) = %v %d, want %v %d", pages, l, e, want, wantE)
	}
}

func agreeJoin(t *testing.T, l ...list) {
	t.Helper()
	want, wantE := slowJoin(l)
	if got, e := extent.Join(l...); !slices.Equal(got, want) || e != wantE {
		t.Fatalf("Join(%v) = %v %d, want %v %d", l, got, e, want, wantE)
	}
}

// agreeDecode: of bytes that are, or aren't, a list's.
func agreeDecode(t *testing.T, b []byte) {
	t.Helper()
	var l list
	n, rest, want := varint.GetList(b)
	if want == api.OK && len(n)%2 != 0 {
		want = api.ErrForm
	}
	for i := 0; want == api.OK && i < len(n); i += 2 {
		l = append(l, x(n[i], n[i+1]))
	}
	if want == api.OK {
		want = slowCheck(l)
	}
	if want != api.OK {
		l, rest = nil, nil
	}
	if got, left, e := extent.Decode(b); !slices.Equal(got, l) || !slices.Equal(left, rest) || e != want {
		t.Fatalf("Decode(%v) = %v %v %d, want %v %v %d", b, got, left, e, l, rest, want)
	}
}
