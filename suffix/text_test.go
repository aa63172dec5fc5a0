package suffix_test

import (
	"slices"
	"testing"

	"incipit/api"
	"incipit/suffix"
)

// The chapter's example.
func TestExample(t *testing.T) {
	text := []int{2, 1, 2, 1, 0}
	if kinds, e := suffix.Kinds(text); e != api.OK || !slices.Equal(kinds, []bool{false, true, false, false, true}) {
		t.Errorf("Kinds = %v %d", kinds, e)
	}
	if order, e := suffix.Sort(text); e != api.OK || !slices.Equal(order, []int{4, 3, 1, 2, 0}) {
		t.Errorf("Sort = %v %d", order, e)
	}
	if firsts, e := suffix.Firsts(text); e != api.OK || !slices.Equal(firsts, []int{1, 4}) {
		t.Errorf("Firsts = %v %d", firsts, e)
	}
	if piece, e := suffix.Piece(text, 1); e != api.OK || !slices.Equal(piece, []int{1, 2, 1, 0}) {
		t.Errorf("Piece = %v %d", piece, e)
	}
}

// P15.1: Check, each of the named texts.
func TestCheck(t *testing.T) {
	alike := func(n int) []int { return drawn(n, func(int) int { return 7 }) }
	unended := alike(65537)
	unended[65536] = 1
	for _, c := range []struct {
		text []int
		want api.Errno
	}{
		{nil, api.ErrForm}, {[]int{}, api.ErrForm}, {[]int{0}, api.OK}, {[]int{0, 0}, api.ErrForm}, {[]int{1, 0, 0}, api.ErrForm},
		{[]int{0, 1, 0}, api.ErrForm}, {[]int{1, 0, 1, 0}, api.ErrForm}, {[]int{1, 0, 1}, api.ErrForm}, {[]int{0, 1}, api.ErrForm},
		{[]int{1}, api.ErrForm}, {[]int{1, 2, 3}, api.ErrForm}, {[]int{-1, 0}, api.ErrRange}, {[]int{1, 0}, api.OK}, {[]int{65535, 0}, api.OK},
		{[]int{65536, 0}, api.ErrRange}, {[]int{65534, 65535, 1, 0}, api.OK}, {[]int{1, -1}, api.ErrRange}, {[]int{0, 65536}, api.ErrRange},
		{[]int{-1}, api.ErrRange}, {[]int{0, 0, 65536, 0}, api.ErrRange}, {[]int{1, 0, 0, -1}, api.ErrRange},
		{alike(65536), api.OK}, {alike(65537), api.ErrLong}, {alike(65538), api.ErrLong}, {alike(200000), api.ErrLong},
		{make([]int, 65536), api.ErrForm}, {make([]int, 65537), api.ErrLong}, {unended, api.ErrLong}, {unended[1:], api.ErrForm},
		{append(alike(65535), 0), api.ErrForm}, {append(alike(65536), 0), api.ErrLong}, {append(alike(65536), -1), api.ErrLong},
		{append(alike(65535), 65536), api.ErrRange}, {drawn(65537, func(int) int { return 65536 }), api.ErrLong}, {drawn(65536, func(int) int { return 65536 }), api.ErrRange},
		{drawn(65536, func(i int) int { return i + 1 }), api.OK}, {drawn(65536, func(i int) int { return i }), api.ErrForm},
	} {
		if e := suffix.Check(c.text); e != c.want {
			t.Errorf("Check of %d codes, first %v = %d, want %d", len(c.text), c.text[:min(5, len(c.text))], e, c.want)
		}
	}
	for _, code := range far {
		for _, text := range [][]int{{code}, {code, 0}, {0, code}, {0, 0, code, 0}, {1, code, 1}} {
			if e := suffix.Check(text); e != api.ErrRange {
				t.Errorf("Check(%v) = %d", text, e)
			}
		}
	}
}

// P15.1: Check, as the model, of all lists of few numbers.
func TestCheckOfAllShort(t *testing.T) {
	for n := range 7 {
		eachList(n, []int{-1, 0, 1, 65535, 65536}[:5-n/6], func(l []int) {
			if e := suffix.Check(l); e != model(l).wrong() {
				t.Fatalf("Check(%v) = %d, want %d", l, e, model(l).wrong())
			}
		})
	}
}

// P15.1: of no text each call has Check's error, whatever place or order is told.
func TestWrongTexts(t *testing.T) {
	for _, m := range wrongTexts() {
		want := m.wrong()
		if e := suffix.Check(m); want == api.OK || e != want {
			t.Errorf("Check of %d codes = %d, want %d", len(m), e, want)
		}
		kinds, e := suffix.Kinds(m)
		wantErrno(t, "Kinds", len(kinds) == 0, e, want)
		firsts, e := suffix.Firsts(m)
		wantErrno(t, "Firsts", len(firsts) == 0, e, want)
		order, e := suffix.Sort(m)
		wantErrno(t, "Sort", len(order) == 0, e, want)
		for _, a := range []int{-1, 0, 1, len(m) - 1, len(m), -1 << 62, 1 << 62} {
			for _, b := range []int{-1, 0, len(m) - 1, len(m), 1 << 62} {
				is, e := suffix.Less(m, a, b)
				wantErrno(t, "Less", !is, e, want)
				n, e := suffix.Common(m, a, b)
				wantErrno(t, "Common", n == 0, e, want)
			}
			piece, e := suffix.Piece(m, a)
			wantErrno(t, "Piece", len(piece) == 0, e, want)
		}
		for _, order := range [][]int{nil, {}, {0}, {1, 0}, {0, 1}, {2, 1, 0}, {0, 0}, {-1}, {1}, slices.Repeat([]int{0}, len(m)), rising(len(m)), falling(len(m)), falling(len(m) + 1)} {
			if suffix.Right(m, order) {
				t.Errorf("an order is right of no text, of %d codes", len(m))
			}
			commons, e := suffix.Commons(m, order)
			wantErrno(t, "Commons", len(commons) == 0, e, want)
		}
	}
}

// rising: all numbers from 0 on.
func rising(n int) []int {
	l := make([]int, n)
	for i := range l {
		l[i] = i
	}
	return l
}

// falling: all numbers down to 0.
func falling(n int) []int {
	l := rising(n)
	slices.Reverse(l)
	return l
}

// P15.1: kinds and first Ss of the named texts.
func TestKinds(t *testing.T) {
	for _, c := range []struct {
		text   []int
		kinds  string
		firsts []int
	}{
		{[]int{0}, "S", nil},
		{[]int{1, 0}, "LS", []int{1}},
		{[]int{1, 2, 3, 0}, "SSLS", []int{3}},
		{[]int{3, 2, 1, 0}, "LLLS", []int{3}},
		{[]int{5, 5, 5, 5, 0}, "LLLLS", []int{4}},
		{[]int{5, 5, 5, 6, 0}, "SSSLS", []int{4}},
		{[]int{5, 5, 4, 5, 5, 0}, "LLSLLS", []int{2, 5}},
		{[]int{1, 3, 2, 2, 3, 1, 1, 4, 4, 0}, "SLSSLSSLLS", []int{2, 5, 9}},
		{[]int{1, 65535, 1, 65535, 0}, "SLSLS", []int{2, 4}},
		{[]int{65535, 1, 65535, 1, 0}, "LSLLS", []int{1, 4}},
	} {
		kinds, e := suffix.Kinds(c.text)
		got := ""
		for _, isS := range kinds {
			if isS {
				got += "S"
			} else {
				got += "L"
			}
		}
		if got != c.kinds || e != api.OK {
			t.Errorf("Kinds(%v) = %s %d, want %s", c.text, got, e, c.kinds)
		}
		if l, e := suffix.Firsts(c.text); e != api.OK || !slices.Equal(l, c.firsts) {
			t.Errorf("Firsts(%v) = %v %d, want %v", c.text, l, e, c.firsts)
		}
	}
}

// P15.1: Less and Common at the named places.
func TestPairs(t *testing.T) {
	alike := drawn(65536, func(int) int { return 9 })
	for _, c := range []struct {
		text   []int
		a, b   int
		less   bool
		common int
	}{
		{[]int{0}, 0, 0, false, 1},
		{[]int{2, 1, 2, 1, 0}, 1, 3, false, 1},
		{[]int{2, 1, 2, 1, 0}, 3, 1, true, 1},
		{[]int{2, 1, 2, 1, 0}, 0, 2, false, 2},
		{[]int{2, 1, 2, 1, 0}, 2, 0, true, 2},
		{[]int{2, 1, 2, 1, 0}, 4, 0, true, 0},
		{[]int{2, 1, 2, 1, 0}, 0, 4, false, 0},
		{[]int{2, 1, 2, 1, 0}, 4, 4, false, 1},
		{[]int{2, 1, 2, 1, 0}, 0, 0, false, 5},
		{[]int{2, 1, 2, 1, 0}, 2, 2, false, 3},
		{alike, 0, 1, false, 65534},
		{alike, 1, 0, true, 65534},
		{alike, 0, 65535, false, 0},
		{alike, 65535, 0, true, 0},
		{alike, 65534, 65533, true, 1},
		{alike, 30000, 100, true, 35535},
		{alike, 0, 0, false, 65536},
		{alike, 65535, 65535, false, 1},
	} {
		if is, e := suffix.Less(c.text, c.a, c.b); is != c.less || e != api.OK {
			t.Errorf("Less at %d, %d of %d codes = %v %d", c.a, c.b, len(c.text), is, e)
		}
		if n, e := suffix.Common(c.text, c.a, c.b); n != c.common || e != api.OK {
			t.Errorf("Common at %d, %d of %d codes = %d %d, want %d", c.a, c.b, len(c.text), n, e, c.common)
		}
	}
	for _, a := range append([]int{-1, 65536}, far...) {
		for _, b := range []int{0, 65535, -1, 65536} {
			is, e := suffix.Less(alike, a, b)
			wantErrno(t, "Less", !is, e, api.ErrRange)
			is, e = suffix.Less(alike, b, a)
			wantErrno(t, "Less", !is, e, api.ErrRange)
			n, e := suffix.Common(alike, a, b)
			wantErrno(t, "Common", n == 0, e, api.ErrRange)
			n, e = suffix.Common(alike, b, a)
			wantErrno(t, "Common", n == 0, e, api.ErrRange)
		}
	}
}

// P15.1: Piece at places of each kind.
func TestPieces(t *testing.T) {
	text := []int{1, 3, 2, 2, 3, 1, 1, 4, 4, 0}
	for at, want := range map[int][]int{2: {2, 2, 3, 1}, 5: {1, 1, 4, 4, 0}, 9: {0}} {
		if l, e := suffix.Piece(text, at); e != api.OK || !slices.Equal(l, want) {
			t.Errorf("Piece at %d = %v %d, want %v", at, l, e, want)
		}
	}
	for _, at := range []int{0, 1, 3, 4, 6, 7, 8} {
		l, e := suffix.Piece(text, at)
		wantErrno(t, "Piece at no first S", len(l) == 0, e, api.ErrNone)
	}
	for _, at := range append([]int{-1, 10, 11}, far...) {
		l, e := suffix.Piece(text, at)
		wantErrno(t, "Piece at no place", len(l) == 0, e, api.ErrRange)
	}
	l, e := suffix.Piece([]int{0}, 0)
	wantErrno(t, "Piece of one code, which has none ahead", len(l) == 0, e, api.ErrNone)
	l, e = suffix.Piece([]int{0}, 1)
	wantErrno(t, "Piece behind the end", len(l) == 0, e, api.ErrRange)
	long := drawn(65536, func(i int) int { return 1 + min(i, 1) })
	if l, e := suffix.Piece(long, 65535); e != api.OK || !slices.Equal(l, []int{0}) {
		t.Errorf("Piece of the last place = %v %d", l, e)
	}
	long[0], long[1] = 2, 1
	if l, e := suffix.Piece(long, 1); e != api.OK || !slices.Equal(l, long[1:]) {
		t.Errorf("a long piece of %d codes, %d", len(l), e)
	}
}

// P15.1: all that is told of places, as the model, for all texts of a few codes.
func TestPlacesOfAllShort(t *testing.T) {
	eachShort(func(m model) {
		if len(m) < 8 {
			agreePlaces(t, m, append(rising(len(m)), -1, len(m), len(m)+1))
		}
	})
	eachList(3, []int{1, 2}, func(l []int) { agreePlaces(t, append(l, 0), places(4)) })
}

// The same of longer ones.
func TestPlacesOfLong(t *testing.T) {
	eachLong([]int{1, 2, 3, 9, 31, 32, 33}, func(m model) { agreePlaces(t, m, append(rising(len(m)), -1, len(m))) })
	eachLong([]int{700, 3000}, func(m model) {
		n := len(m)
		agreePlaces(t, m, []int{-1, 0, 1, 2, 50, 51, n / 2, n - 50, n - 3, n - 2, n - 1, n})
	})
}
