package extent_test

import (
	"math"
	"slices"
	"testing"

	"incipit/api"
	"incipit/extent"
	"incipit/varint"
)

// The chapter's example.
func TestExample(t *testing.T) {
	l, e := extent.Of(5, 6, 7, 2)
	if e != api.OK || !slices.Equal(l, list{x(5, 3), x(2, 1)}) {
		t.Fatalf("Of(5, 6, 7, 2) = %v %d", l, e)
	}
	if b, e := extent.Encode(l...); e != api.OK || !slices.Equal(b, []byte{4, 5, 3, 2, 1}) {
		t.Errorf("Encode(%v) = %v %d", l, b, e)
	}
	if m, rest, e := extent.Decode([]byte{4, 5, 3, 2, 1}); e != api.OK || !slices.Equal(m, l) || len(rest) != 0 {
		t.Errorf("Decode = %v %v %d", m, rest, e)
	}
}

// P8.1 to P8.3: lists as they must be, and what is told of them.
func TestRightLists(t *testing.T) {
	for _, l := range rights() {
		if e := extent.Check(l...); e != api.OK {
			t.Errorf("Check(%v): %d", l, e)
		}
		agree(t, l)
	}
}

// P8.1 to P8.3: lists that are wrong in one way, and that nothing is told of them.
func TestWrongLists(t *testing.T) {
	for want, lists := range faulty() {
		for _, l := range lists {
			if e := extent.Check(l...); e != want {
				t.Errorf("Check(%v): %d, want %d", l, e, want)
			}
			if n, p := extent.Count(l...), extent.Pages(l...); n != 0 || len(p) != 0 {
				t.Errorf("of %v: Count %d, Pages %v", l, n, p)
			}
			agree(t, l)
		}
	}
}

// P8.1 to P8.3: all lists of up to two extents, and of three the errors.
func TestEveryList(t *testing.T) {
	everyList(2, func(l list) { agree(t, l) })
	everyList(3, func(l list) {
		if e, want := extent.Check(l...), slowCheck(l); e != want {
			t.Fatalf("Check(%v): %d, want %d", l, e, want)
		}
	})
}

// P8.1: one extent, of all first pages and counts at the edges.
func TestOneExtent(t *testing.T) {
	for from := -3; from <= 2052; from++ {
		left := 2048 - from // as many as still fit
		for _, n := range append([]int{-2, -1, 0, 1, 2, 1023, 1024, 1025, left - 1, left, left + 1, 2046, 2047, 2048}, beyond()...) {
			want := slowCheck(list{x(from, n)})
			if e := extent.Check(x(from, n)); e != want {
				t.Fatalf("Check of %d %d: %d, want %d", from, n, e, want)
			}
		}
	}
	for _, from := range beyond() {
		for _, n := range append([]int{-1, 0, 1, 2, 2046}, beyond()...) {
			agree(t, list{x(from, n)})
		}
		// First page and count together are in range again, where an int goes round.
		agree(t, list{x(from, 5-from)})
		agree(t, list{x(5, from-5)})
	}
}

// P8.1: which of several errors is told, each pair of them in both orders, and all of them.
func TestFirstErrorOfCheck(t *testing.T) {
	for _, ways := range []struct {
		e api.Errno
		l list
	}{
		{api.ErrRange, list{x(2047, 2)}},
		{api.ErrLong, list{x(800, 1025)}},
		{api.ErrTwice, list{x(10, 2), x(11, 1)}},
		{api.ErrForm, list{x(20, 2), x(22, 1)}},
	} {
		for _, other := range []struct {
			e api.Errno
			l list
		}{
			{api.ErrRange, list{x(1, 1)}},
			{api.ErrRange, list{x(5, 0)}},
			{api.ErrLong, list{x(800, 512), x(100, 513)}},
			{api.ErrTwice, list{x(50, 2), x(50, 1)}},
			{api.ErrForm, list{x(60, 2), x(62, 1)}},
		} {
			want := earlier(ways.e, other.e)
			for _, l := range []list{slices.Concat(ways.l, other.l), slices.Concat(other.l, ways.l)} {
				if e := extent.Check(l...); e != want {
					t.Errorf("Check(%v): %d, want %d", l, e, want)
				}
				agree(t, l)
			}
		}
	}
	all := []list{{x(2047, 2)}, {x(800, 1025)}, {x(10, 2), x(11, 1)}, {x(20, 2), x(22, 1)}}
	for i := range all {
		l := slices.Concat(slices.Concat(all[i:]...), slices.Concat(all[:i]...))
		agree(t, l)
		slices.Reverse(l)
		agree(t, l)
	}
}

// earlier: the one that Check names first.
func earlier(a, b api.Errno) api.Errno {
	order := []api.Errno{api.ErrRange, api.ErrLong, api.ErrTwice, api.ErrForm}
	return order[min(slices.Index(order, a), slices.Index(order, b))]
}

// P8.1: an extent that begins where the one ahead ends; the other way round, and with another between, it is short.
func TestShort(t *testing.T) {
	for _, y := range []struct {
		l    list
		want api.Errno
	}{
		{list{x(4, 3), x(7, 1)}, api.ErrForm},
		{list{x(7, 1), x(4, 3)}, api.OK},
		{list{x(4, 3), x(8, 1)}, api.OK},
		{list{x(4, 3), x(20, 1), x(7, 1)}, api.OK},
		{list{x(20, 1), x(4, 3), x(7, 1)}, api.ErrForm},
		{list{x(2, 1023), x(1025, 1)}, api.ErrForm},
		{list{x(1025, 1), x(2, 1023)}, api.OK},
	} {
		if e := extent.Check(y.l...); e != y.want {
			t.Errorf("Check(%v): %d, want %d", y.l, e, y.want)
		}
	}
}

// P8.1: 1023, 1024 and 1025 pages, in one extent and in several.
func TestMostPages(t *testing.T) {
	for _, n := range []int{1023, 1024, 1025} {
		want := api.OK
		if n > 1024 {
			want = api.ErrLong
		}
		for _, l := range []list{{x(2, n)}, {x(2048-n, n)}, {x(1000, n-512), x(2, 512)}, {x(1000, 512), x(2, n-512)}, {x(100, n-1), x(2, 1)}, {x(1900, 1), x(2, n-1)}, falling(n)} {
			if e := extent.Check(l...); e != want {
				t.Errorf("%d pages: Check(%v): %d, want %d", n, l, e, want)
			}
			agree(t, l)
		}
	}
}

// P8.1: what Of is told, by name.
func TestOf(t *testing.T) {
	for i, y := range []struct {
		pages []int
		l     list
		want  api.Errno
	}{
		{pages: nil},
		{pages: []int{}},
		{pages: []int{2}, l: list{x(2, 1)}},
		{pages: []int{2047}, l: list{x(2047, 1)}},
		{pages: []int{5, 6, 7}, l: list{x(5, 3)}},
		{pages: []int{7, 6, 5}, l: list{x(7, 1), x(6, 1), x(5, 1)}},
		{pages: []int{9, 10, 3, 11}, l: list{x(9, 2), x(3, 1), x(11, 1)}},
		{pages: []int{5, 7, 9}, l: list{x(5, 1), x(7, 1), x(9, 1)}},
		{pages: []int{2, 2047, 3, 2046}, l: list{x(2, 1), x(2047, 1), x(3, 1), x(2046, 1)}},
		{pages: []int{2046, 2047, 2, 3, 4}, l: list{x(2046, 2), x(2, 3)}},
		{pages: count(2, 1024), l: list{x(2, 1024)}},
		{pages: count(1024, 1024), l: list{x(1024, 1024)}},
		{pages: count(2, 1025), want: api.ErrLong},
		{pages: count(2, 2046), want: api.ErrLong},
		{pages: []int{1}, want: api.ErrRange},
		{pages: []int{0}, want: api.ErrRange},
		{pages: []int{-1}, want: api.ErrRange},
		{pages: []int{2048}, want: api.ErrRange},
		{pages: []int{5, 2048}, want: api.ErrRange},
		{pages: []int{1, 5}, want: api.ErrRange},
		{pages: []int{5, 5}, want: api.ErrTwice},
		{pages: []int{5, 6, 5}, want: api.ErrTwice},
		{pages: []int{5, 6, 7, 2, 3, 7}, want: api.ErrTwice},
		{pages: append(count(2, 1023), 1000), want: api.ErrTwice},
	} {
		if l, e := extent.Of(y.pages...); !slices.Equal(l, y.l) || e != y.want {
			t.Errorf("%d: Of = %v %d, want %v %d", i, l, e, y.l, y.want)
		}
		agreeOf(t, y.pages...)
	}
	for page := -3; page <= 2052; page++ {
		agreeOf(t, page)
	}
	for _, page := range beyond() {
		agreeOf(t, page)
		agreeOf(t, 5, page, 6)
	}
}

// P8.1: which of several errors Of tells, in whichever order they stand.
func TestFirstErrorOfOf(t *testing.T) {
	for i, y := range []struct {
		pages []int
		want  api.Errno
	}{
		{append(count(2, 1025), 2048), api.ErrRange},
		{append([]int{2048}, count(2, 1025)...), api.ErrRange},
		{append(count(2, 1025), 1), api.ErrRange},
		{append(count(2, 2046), -1), api.ErrRange},
		{[]int{5, 5, 1}, api.ErrRange},
		{[]int{1, 5, 5}, api.ErrRange},
		{[]int{1, 1}, api.ErrRange},
		{append(count(2, 1024), 2), api.ErrLong},
		{append([]int{9, 9}, count(2, 1023)...), api.ErrLong},
		{slices.Repeat([]int{7}, 1025), api.ErrLong},
		{slices.Repeat([]int{7}, 1024), api.ErrTwice},
		{slices.Repeat([]int{7}, 100000), api.ErrLong},
		{append(slices.Repeat([]int{7}, 100000), 0), api.ErrRange},
	} {
		if l, e := extent.Of(y.pages...); len(l) != 0 || e != y.want {
			t.Errorf("%d: Of = %v %d, want %d", i, l, e, y.want)
		}
	}
}

// P8.1: all lists of up to four pages of few.
func TestOfEveryList(t *testing.T) {
	var all func(pages []int)
	all = func(pages []int) {
		agreeOf(t, pages...)
		if len(pages) < 4 {
			for _, page := range []int{1, 2, 3, 4, 5, 6, 2046, 2047, 2048} {
				all(append(pages[:len(pages):len(pages)], page))
			}
		}
	}
	all(nil)
}

// P8.2: each place, and each page there is, of all right lists.
func TestAtAndFindOfAll(t *testing.T) {
	for _, l := range rights() {
		pages, _ := slowPages(l)
		for i := -2; i <= len(pages)+2; i++ {
			agreeAt(t, l, i, pages, api.OK)
		}
		for page := -2; page <= 2050; page += 1 + len(pages)/100 {
			agreeFind(t, l, page, pages, api.OK)
		}
	}
}

// P8.2: what At and Find are told, by name.
func TestAtAndFind(t *testing.T) {
	l := list{x(9, 2), x(3, 4), x(20, 1)} // 9 10 3 4 5 6 20
	for i, page := range []int{9, 10, 3, 4, 5, 6, 20} {
		if p, e := extent.At(l, i); p != page || e != api.OK {
			t.Errorf("At(%d) = %d %d, want %d", i, p, e, page)
		}
		if place, e := extent.Find(l, page); place != i || e != api.OK {
			t.Errorf("Find(%d) = %d %d, want %d", page, place, e, i)
		}
	}
	for _, i := range append([]int{-1, 7, 8, 1024, 2048}, beyond()...) {
		if p, e := extent.At(l, i); p != 0 || e != api.ErrRange {
			t.Errorf("At(%d) = %d %d", i, p, e)
		}
	}
	for _, page := range append([]int{-1, 0, 1, 2, 7, 8, 11, 19, 21, 2047, 2048}, beyond()...) {
		if i, e := extent.Find(l, page); i != 0 || e != api.ErrNone {
			t.Errorf("Find(%d) = %d %d", page, i, e)
		}
	}
	if p, e := extent.At(nil, 0); p != 0 || e != api.ErrRange {
		t.Errorf("At(nil, 0) = %d %d", p, e)
	}
	if i, e := extent.Find(nil, 2); i != 0 || e != api.ErrNone {
		t.Errorf("Find(nil, 2) = %d %d", i, e)
	}
}

// P8.2: of a wrong list Check's error is told, ahead of what is wrong with the place or the page.
func TestPlacesOfWrongLists(t *testing.T) {
	for want, lists := range faulty() {
		for _, l := range lists {
			for _, i := range []int{-1, 0, 5, math.MaxInt} {
				if p, e := extent.At(l, i); p != 0 || e != want {
					t.Errorf("At(%v, %d) = %d %d, want %d", l, i, p, e, want)
				}
				if place, e := extent.Find(l, i); place != 0 || e != want {
					t.Errorf("Find(%v, %d) = %d %d, want %d", l, i, place, e, want)
				}
				if p, e := extent.Part(l, i, 0); len(p) != 0 || e != want {
					t.Errorf("Part(%v, %d, 0) = %v %d, want %d", l, i, p, e, want)
				}
			}
		}
	}
}

// P8.2: what Part is told, by name.
func TestPart(t *testing.T) {
	l := list{x(9, 3), x(3, 4), x(20, 2)} // 9 10 11 3 4 5 6 20 21
	for _, y := range []struct {
		from, to int
		want     list
	}{
		{0, 0, nil}, {4, 4, nil}, {3, 3, nil}, {9, 9, nil},
		{0, 9, l},
		{0, 1, list{x(9, 1)}}, {4, 5, list{x(4, 1)}}, {8, 9, list{x(21, 1)}},
		{1, 3, list{x(10, 2)}}, {3, 7, list{x(3, 4)}}, {4, 6, list{x(4, 2)}},
		{1, 5, list{x(10, 2), x(3, 2)}}, {2, 8, list{x(11, 1), x(3, 4), x(20, 1)}}, {6, 9, list{x(6, 1), x(20, 2)}},
	} {
		if p, e := extent.Part(l, y.from, y.to); !slices.Equal(p, y.want) || e != api.OK {
			t.Errorf("Part(%d, %d) = %v %d, want %v", y.from, y.to, p, e, y.want)
		}
	}
	for _, y := range [][2]int{
		{1, 0}, {9, 0}, {9, 8}, {-1, 0}, {-1, -1}, {-1, 5}, {-2, -1}, {0, -1}, {0, 10}, {9, 10}, {10, 10}, {10, 9}, {10, 11},
		{math.MinInt, 5}, {0, math.MaxInt}, {0, math.MinInt}, {math.MaxInt, math.MaxInt}, {math.MinInt, math.MinInt}, {math.MinInt, math.MaxInt}, {math.MaxInt, math.MinInt},
	} {
		if p, e := extent.Part(l, y[0], y[1]); len(p) != 0 || e != api.ErrRange {
			t.Errorf("Part(%d, %d) = %v %d", y[0], y[1], p, e)
		}
	}
}

// P8.2: two extents that stood apart by what was between them aren't made one, and what is left is short.
func TestPartIsShort(t *testing.T) {
	l := list{x(2, 3), x(9, 1), x(5, 2)}
	for _, y := range []struct {
		from, to int
		want     list
	}{
		{0, 6, l}, {2, 5, list{x(4, 1), x(9, 1), x(5, 1)}}, {3, 6, list{x(9, 1), x(5, 2)}},
	} {
		if p, e := extent.Part(l, y.from, y.to); !slices.Equal(p, y.want) || e != api.OK {
			t.Errorf("Part(%d, %d) = %v %d, want %v", y.from, y.to, p, e, y.want)
		}
	}
}

// P8.2: all places of small lists, those at the edges of great ones.
func TestPartOfEveryPlace(t *testing.T) {
	for _, l := range rights() {
		pages, _ := slowPages(l)
		places := count(-2, len(pages)+5)
		if len(pages) > 20 {
			places = append(cuts(l), -1, len(pages)-1, len(pages), len(pages)+1, 1024, 1025)
		}
		for _, from := range places {
			for _, to := range places {
				agreePart(t, l, from, to, pages, api.OK)
			}
		}
	}
	everyList(2, func(l list) {
		want := slowCheck(l)
		pages, _ := slowPages(l)
		for from := -1; from <= len(pages)+1; from++ {
			for to := -1; to <= len(pages)+1; to++ {
				agreePart(t, l, from, to, pages, want)
			}
		}
	})
}

// cuts: places about the beginnings of the first extents.
func cuts(l list) []int {
	places, at := []int{0, 1, 2}, 0
	for _, e := range l[:min(len(l), 5)] {
		at += e.Count
		places = append(places, at-1, at, at+1)
	}
	slices.Sort(places)
	return slices.Compact(places)
}

// P8.2: what Join is told, by name.
func TestJoin(t *testing.T) {
	for i, y := range []struct {
		l    []list
		want list
		e    api.Errno
	}{
		{l: nil},
		{l: []list{nil}},
		{l: []list{{}, nil, {}}},
		{l: []list{{x(5, 3), x(2, 1)}}, want: list{x(5, 3), x(2, 1)}},
		{l: []list{{x(5, 3)}, {x(2, 1)}}, want: list{x(5, 3), x(2, 1)}},
		{l: []list{{x(5, 3)}, {x(8, 2)}}, want: list{x(5, 5)}},
		{l: []list{{x(8, 2)}, {x(5, 3)}}, want: list{x(8, 2), x(5, 3)}},
		{l: []list{{x(5, 1)}, {x(6, 1)}, {x(7, 1)}}, want: list{x(5, 3)}},
		{l: []list{{x(5, 1)}, nil, {x(6, 1)}, {}, {x(7, 1)}}, want: list{x(5, 3)}},
		{l: []list{{x(20, 1), x(5, 2)}, {x(7, 1), x(30, 1)}, {x(31, 4), x(2, 1)}}, want: list{x(20, 1), x(5, 3), x(30, 5), x(2, 1)}},
		{l: []list{{x(2, 512)}, {x(514, 512)}}, want: list{x(2, 1024)}},
		{l: []list{{x(2, 512)}, {x(1000, 512)}}, want: list{x(2, 512), x(1000, 512)}},
		{l: []list{{x(2, 1024)}, nil}, want: list{x(2, 1024)}},
		{l: []list{{x(2, 512)}, {x(514, 513)}}, e: api.ErrLong},
		{l: []list{{x(2, 1024)}, {x(2000, 1)}}, e: api.ErrLong},
		{l: []list{{x(2, 1024)}, {x(2, 1024)}, {x(2, 1024)}}, e: api.ErrLong}, // ErrTwice, too
		{l: []list{{x(5, 1)}, {x(5, 1)}}, e: api.ErrTwice},
		{l: []list{{x(5, 3)}, {x(9, 1)}, {x(2, 4)}}, e: api.ErrTwice},
		{l: []list{{x(5, 3)}, {x(8, 1)}, {x(8, 1)}}, e: api.ErrTwice},
		{l: []list{{x(2, 512)}, {x(513, 512)}}, e: api.ErrTwice},
		{l: []list{{x(1, 1)}}, e: api.ErrRange},
		{l: []list{{x(5, 2), x(7, 1)}}, e: api.ErrForm},
		{l: []list{nil, {x(5, 2), x(7, 1)}}, e: api.ErrForm},
	} {
		if l, e := extent.Join(y.l...); !slices.Equal(l, y.want) || e != y.e {
			t.Errorf("%d: Join(%v) = %v %d, want %v %d", i, y.l, l, e, y.want, y.e)
		}
		agreeJoin(t, y.l...)
	}
}

// P8.2: a wrong list's error is told wherever it stands, ahead of what the pages together are; of several wrong ones that of the first.
func TestJoinOfWrongLists(t *testing.T) {
	around := [][]list{
		{{x(50, 2)}, {x(60, 1), x(40, 2)}},
		{{x(50, 2)}, {x(51, 1)}},           // together a page twice
		{{x(1000, 1024)}, {x(2, 900)}},     // together too long
		{{x(1000, 1024)}, {x(1000, 1024)}}, // both
	}
	for want, lists := range faulty() {
		for _, wrong := range lists {
			for _, r := range around {
				for _, l := range [][]list{{wrong, r[0], r[1]}, {r[0], wrong, r[1]}, {r[0], r[1], wrong}, {wrong, wrong}} {
					if got, e := extent.Join(l...); len(got) != 0 || e != want {
						t.Errorf("Join(%v) = %v %d, want %d", l, got, e, want)
					}
				}
			}
			for other, lists := range faulty() {
				for _, l := range [][]list{{wrong, lists[0]}, {nil, wrong, {x(9, 1)}, lists[0]}} {
					if got, e := extent.Join(l...); len(got) != 0 || e != want {
						t.Errorf("Join(%v), of %d ahead of %d: %v %d", l, want, other, got, e)
					}
				}
			}
		}
	}
}

// P8.2: all pairs of lists of few extents, and of those up to the limits.
func TestJoinOfPairs(t *testing.T) {
	var few []list
	everyList(1, func(l list) { few = append(few, l) })
	few = append(few, list{x(2, 1), x(4, 1)}, list{x(4, 2), x(2, 2)}, list{x(2, 2), x(4, 1)}, list{x(2, 1), x(2, 1)})
	for _, a := range few {
		for _, b := range few {
			agreeJoin(t, a, b)
			agreeJoin(t, a, nil, b, list{x(6, 1)})
		}
	}
	for _, a := range rights() {
		agreeJoin(t, a)
		for _, b := range rights() {
			agreeJoin(t, a, b)
		}
	}
}

// P8.3: what is encoded is decoded, with and without bytes behind it, and whole only.
func TestDecodeOfEncoded(t *testing.T) {
	for _, l := range rights() {
		b, e := extent.Encode(l...)
		if e != api.OK || len(b) == 0 {
			t.Fatalf("Encode(%v): %v %d", l, b, e)
		}
		for _, behind := range [][]byte{nil, {0}, {7}, {255, 255}, b} {
			m, rest, e := extent.Decode(slices.Concat(b, behind))
			if e != api.OK || !slices.Equal(m, l) || !slices.Equal(rest, behind) {
				t.Fatalf("Decode of %v and %v = %v %v %d", l, behind, m, rest, e)
			}
		}
		for n := 0; n < len(b); n += 1 + len(b)/50 {
			if m, rest, e := extent.Decode(b[:n]); len(m) != 0 || len(rest) != 0 || e != api.ErrEnd {
				t.Fatalf("Decode of %d of %d bytes = %v %v %d", n, len(b), m, rest, e)
			}
		}
	}
}

// P8.3: bytes that are no list's, by name.
func TestDecode(t *testing.T) {
	long := varint.List(make([]int, 65536))
	for i, y := range []struct {
		b    []byte
		l    list
		rest []byte
		want api.Errno
	}{
		{b: []byte{0}},
		{b: []byte{0, 9, 9}, rest: []byte{9, 9}},
		{b: []byte{2, 5, 3, 7}, l: list{x(5, 3)}, rest: []byte{7}},
		{b: nil, want: api.ErrEnd},
		{b: []byte{}, want: api.ErrEnd},
		{b: []byte{128}, want: api.ErrEnd},
		{b: []byte{2, 5}, want: api.ErrEnd},
		{b: []byte{1}, want: api.ErrEnd}, // ahead of the odd count
		{b: []byte{2, 1}, want: api.ErrEnd},
		{b: []byte{128, 0}, want: api.ErrForm},
		{b: []byte{2, 133, 0, 1}, want: api.ErrForm},
		{b: []byte{2, 1, 129, 0}, want: api.ErrForm}, // ahead of ErrRange
		{b: varint.Put(65537), want: api.ErrLong},
		{b: varint.Put(65538, 1, 1), want: api.ErrLong},
		{b: []byte{1, 5}, want: api.ErrForm},
		{b: []byte{3, 5, 3, 2}, want: api.ErrForm},
		{b: []byte{3, 1, 1, 1}, want: api.ErrForm}, // ahead of ErrRange
		{b: []byte{5, 5, 1, 5, 1, 5}, want: api.ErrForm},
		{b: varint.List(append(make([]int, 2046), 1)), want: api.ErrForm},
		{b: []byte{2, 1, 1}, want: api.ErrRange},
		{b: []byte{2, 5, 0, 7}, want: api.ErrRange},
		{b: varint.List([]int{2047, 2}), want: api.ErrRange},
		{b: varint.List([]int{2047, math.MaxInt}), want: api.ErrRange},
		{b: varint.List([]int{math.MaxInt, math.MaxInt}), want: api.ErrRange},
		{b: long, want: api.ErrRange},
		{b: varint.List(slices.Repeat([]int{7, 1}, 32768)), want: api.ErrLong},
		{b: varint.List([]int{2, 1025}), want: api.ErrLong},
		{b: []byte{4, 5, 3, 6, 1}, want: api.ErrTwice},
		{b: []byte{4, 5, 3, 8, 1}, want: api.ErrForm},
	} {
		if l, rest, e := extent.Decode(y.b); !slices.Equal(l, y.l) || !slices.Equal(rest, y.rest) || e != y.want {
			t.Errorf("%d: Decode = %v %v %d, want %v %v %d", i, l, rest, e, y.l, y.rest, y.want)
		}
		agreeDecode(t, y.b)
	}
}

// P8.3: the bytes of lists of each of Check's errors, with bytes behind them.
func TestDecodeOfWrongLists(t *testing.T) {
	for want, lists := range faulty() {
		for _, l := range lists {
			n := numbers(l)
			if slices.Min(n) < 0 {
				continue // it has no bytes
			}
			for _, behind := range [][]byte{nil, {7, 7}} {
				m, rest, e := extent.Decode(append(varint.List(n), behind...))
				if len(m) != 0 || len(rest) != 0 || e != want {
					t.Errorf("Decode of %v's bytes = %v %v %d, want %d", l, m, rest, e, want)
				}
			}
			// One number fewer is an odd count, whatever else is wrong.
			if _, _, e := extent.Decode(varint.List(n[:len(n)-1])); e != api.ErrForm {
				t.Errorf("Decode of an odd count of %v's numbers: %d", l, e)
			}
		}
	}
}

// P8.3: all bytes of up to four of few values, and many more by chance.
func TestDecodeOfEveryBytes(t *testing.T) {
	var all func(b []byte)
	all = func(b []byte) {
		agreeDecode(t, b)
		if len(b) < 5 {
			for _, c := range []byte{0, 1, 2, 3, 4, 5, 127, 128, 130} {
				all(append(b[:len(b):len(b)], c))
			}
		}
	}
	all(nil)
	d := dice(8)
	for range 20000 {
		b := []byte{byte(2 * d.below(6))}
		for range d.below(14) {
			b = append(b, byte(d.below(140)))
		}
		agreeDecode(t, b)
	}
}

// P8.4: the pages of what pages come to are these.
func TestPagesOfOf(t *testing.T) {
	d := dice(84)
	for n := range 1025 {
		if n > 40 && n < 1020 && n%31 != 0 {
			continue
		}
		pages := d.pages(n)
		l, e := extent.Of(pages...)
		if e != api.OK || extent.Check(l...) != api.OK {
			t.Fatalf("Of(%v): %v %d, Check %d", pages, l, e, extent.Check(l...))
		}
		if got := extent.Pages(l...); !slices.Equal(got, pages) || extent.Count(l...) != n {
			t.Fatalf("Pages of Of(%v) = %v", pages, got)
		}
		agree(t, l)
		b, _ := extent.Encode(l...)
		if m, rest, e := extent.Decode(append(b, 9)); e != api.OK || !slices.Equal(m, l) || !slices.Equal(rest, []byte{9}) {
			t.Fatalf("Decode of %v: %v %v %d", l, m, rest, e)
		}
		if n > 0 {
			agreeOf(t, append(pages, pages[d.below(n)])...)
		}
	}
}

// P8.4: parts joined are the whole, for every place to cut at; of small lists, for every two.
func TestPartsJoined(t *testing.T) {
	whole := func(l list, places ...int) {
		t.Helper()
		var parts []list
		from := 0
		for _, to := range append(places, extent.Count(l...)) {
			p, e := extent.Part(l, from, to)
			if e != api.OK || extent.Check(p...) != api.OK {
				t.Fatalf("Part(%v, %d, %d) = %v %d", l, from, to, p, e)
			}
			parts = append(parts, p)
			from = to
		}
		if got, e := extent.Join(parts...); !slices.Equal(got, l) || e != api.OK {
			t.Fatalf("%v, cut at %v and joined: %v %d", l, places, got, e)
		}
	}
	d := dice(48)
	lists := rights()
	for range 20 {
		l, _ := extent.Of(d.pages(1 + d.below(200))...)
		lists = append(lists, l)
	}
	for _, l := range lists {
		n := extent.Count(l...)
		for place := 0; place <= n; place++ {
			whole(l, place)
		}
		for a := 0; a <= n && n < 30; a++ {
			for b := a; b <= n; b++ {
				whole(l, a, b)
			}
		}
		whole(l)
		whole(l, count(0, n)...)
	}
}
