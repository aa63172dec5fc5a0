package induce_test

import (
	"slices"
	"testing"

	"incipit/api"
	"incipit/induce"
)

// agreeBuckets: heads and tails, as the model tells them.
func agreeBuckets(t *testing.T, m model) {
	t.Helper()
	wantHeads, wantTails := m.buckets()
	heads, e := induce.Heads(m.text)
	wantList(t, "Heads", m.text, heads, e, wantHeads)
	tails, e := induce.Tails(m.text)
	wantList(t, "Tails", m.text, tails, e, wantTails)
}

// The chapter's example.
func TestExample(t *testing.T) {
	text := []int{2, 1, 2, 1, 0}
	heads, e := induce.Heads(text)
	wantList(t, "Heads", text, heads, e, []int{0, 1, 3})
	tails, e := induce.Tails(text)
	wantList(t, "Tails", text, tails, e, []int{1, 3, 5})
	order, e := induce.Induce(text, 4, 1)
	wantList(t, "Induce", text, order, e, []int{4, 3, 1, 2, 0})
}

// P16.1: Heads and Tails of the named texts.
func TestBuckets(t *testing.T) {
	for _, c := range []struct{ text, heads, tails []int }{
		{[]int{0}, []int{0}, []int{1}},
		{[]int{1, 0}, []int{0, 1}, []int{1, 2}},
		{[]int{2, 0}, []int{0, 1, 1}, []int{1, 1, 2}},
		{[]int{5, 0}, []int{0, 1, 1, 1, 1, 1}, []int{1, 1, 1, 1, 1, 2}},
		{[]int{3, 5, 3, 0}, []int{0, 1, 1, 1, 3, 3}, []int{1, 1, 1, 3, 3, 4}},
		{[]int{1, 1, 1, 1, 0}, []int{0, 1}, []int{1, 5}},
		{[]int{3, 3, 3, 3, 0}, []int{0, 1, 1, 1}, []int{1, 1, 1, 5}},
		{[]int{4, 1, 4, 2, 2, 0}, []int{0, 1, 2, 4, 4}, []int{1, 2, 4, 4, 6}},
	} {
		heads, e := induce.Heads(c.text)
		wantList(t, "Heads", c.text, heads, e, c.heads)
		tails, e := induce.Tails(c.text)
		wantList(t, "Tails", c.text, tails, e, c.tails)
	}
}

// P16.1: Heads and Tails of great codes, and of the longest texts.
func TestGreatBuckets(t *testing.T) {
	flat := func(count, of, last int) []int { return append(slices.Repeat([]int{of}, count-1), last) }
	for _, c := range []struct{ text, heads, tails []int }{
		{[]int{65535, 0}, append([]int{0}, flat(65535, 1, 1)...), append([]int{1}, flat(65535, 1, 2)...)},
		{drawn(65536, func(int) int { return 65535 }), append([]int{0}, flat(65535, 1, 1)...), append([]int{1}, flat(65535, 1, 65536)...)},
		{drawn(65536, func(int) int { return 1 }), []int{0, 1}, []int{1, 65536}},
		{drawn(65536, func(i int) int { return i + 1 }), rising(65536), rising(65537)[1:]},
		{drawn(65536, func(i int) int { return 65535 - i }), rising(65536), rising(65537)[1:]},
		{drawn(65536, func(i int) int { return 2 - i%2 }), []int{0, 1, 32768}, []int{1, 32768, 65536}},
	} {
		heads, e := induce.Heads(c.text)
		wantList(t, "Heads", c.text, heads, e, c.heads)
		tails, e := induce.Tails(c.text)
		wantList(t, "Tails", c.text, tails, e, c.tails)
	}
}

// P16.1: Heads and Tails, as the model, for all texts of a few codes, and for longer ones.
func TestAllBuckets(t *testing.T) {
	eachShort(func(text []int) { agreeBuckets(t, of(text)) })
	for n := range 4 {
		eachList(n, []int{1, 3, 6, 300}, func(l []int) { agreeBuckets(t, of(append(l, 0))) })
	}
	eachLong([]int{1, 2, 3, 10, 33, 300}, func(text []int) { agreeBuckets(t, of(text)) })
}

// wrongLists: lists and orders that may be handed in with no text of n codes; most are wrong, too.
func wrongLists(n int) [][]int {
	return [][]int{nil, {}, {0}, {n - 1}, {n}, {-1}, {1}, {0, 0}, {1, 3}, {1 << 62}, {-1 << 62, 0}, rising(n), back(rising(n)), rising(n + 1), make([]int, n), slices.Repeat([]int{-1}, n)}
}

// P16.1, P16.2: of no text each call has Check's error, whatever list or order is told.
func TestWrongTexts(t *testing.T) {
	met := map[api.Errno]int{}
	for _, text := range wrongTexts() {
		want := wrong(text)
		met[want]++
		l, e := induce.Heads(text)
		wantErrno(t, "Heads", len(l) == 0, e, want)
		l, e = induce.Tails(text)
		wantErrno(t, "Tails", len(l) == 0, e, want)
		l, e = induce.Reduced(text)
		wantErrno(t, "Reduced", len(l) == 0, e, want)
		for _, told := range wrongLists(len(text)) {
			l, e = induce.Induce(text, told...)
			wantErrno(t, "Induce", len(l) == 0, e, want)
			l, count, e := induce.Names(text, told)
			wantErrno(t, "Names", len(l) == 0 && count == 0, e, want)
			l, e = induce.Back(text, told)
			wantErrno(t, "Back", len(l) == 0, e, want)
		}
	}
	if len(met) != 3 || met[api.OK] > 0 {
		t.Errorf("not each of the errors was met: %v", met)
	}
}

// The same of all lists of few numbers that are no text.
func TestWrongTextsOfFew(t *testing.T) {
	for n := range 5 {
		eachList(n, []int{-1, 0, 1, 65535, 65536}, func(text []int) {
			want := wrong(text)
			if want == api.OK {
				return
			}
			l, e := induce.Heads(text)
			wantErrno(t, "Heads", len(l) == 0, e, want)
			l, e = induce.Tails(text)
			wantErrno(t, "Tails", len(l) == 0, e, want)
			l, e = induce.Induce(text, n-1)
			wantErrno(t, "Induce", len(l) == 0, e, want)
			l, count, e := induce.Names(text, rising(n))
			wantErrno(t, "Names", len(l) == 0 && count == 0, e, want)
			l, e = induce.Reduced(text)
			wantErrno(t, "Reduced", len(l) == 0, e, want)
			l, e = induce.Back(text, []int{0})
			wantErrno(t, "Back", len(l) == 0, e, want)
		})
	}
}
