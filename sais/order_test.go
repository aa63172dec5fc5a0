package sais_test

import (
	"slices"
	"testing"

	"incipit/api"
	"incipit/sais"
)

// agree: order, ranks and levels of a text are as found out code by code.
func agree(t *testing.T, m model) {
	t.Helper()
	wantOrder := m.order()
	order, e := sais.Order(m...)
	wantList(t, "Order", m, order, e, wantOrder)
	l, e := sais.Ranks(m...)
	wantList(t, "Ranks", m, l, e, ranks(wantOrder))
	texts, e := sais.Levels(m...)
	wantLevels(t, m, texts, e, m.levels())
}

// named is a text, and all that is told of it.
type named struct {
	what        string
	text, order []int
	levels      [][]int // behind the first one
}

// The chapter's example, and the texts that the edges name.
var namedTexts = []named{
	{"the example", []int{2, 1, 2, 1, 0}, []int{4, 3, 1, 2, 0}, [][]int{{1, 0}}},
	{"one code", []int{0}, []int{0}, nil},
	{"two codes", []int{1, 0}, []int{1, 0}, nil},
	{"two codes, the first one great", []int{65535, 0}, []int{1, 0}, nil},
	{"unlike and rising", []int{1, 2, 3, 4, 0}, []int{4, 0, 1, 2, 3}, nil},
	{"unlike and falling", []int{4, 3, 2, 1, 0}, []int{4, 3, 2, 1, 0}, nil},
	{"unlike and mixed", []int{3, 1, 4, 2, 5, 0}, []int{5, 1, 3, 0, 2, 4}, nil},
	{"unlike, few of many", []int{700, 65535, 2, 65534, 9, 0}, []int{5, 2, 4, 0, 3, 1}, nil},
	{"alike ahead of the end", []int{1, 1, 1, 1, 0}, []int{4, 3, 2, 1, 0}, nil},
	{"alike and great", []int{65535, 65535, 65535, 0}, []int{3, 2, 1, 0}, nil},
	{"two alike", []int{3, 3, 0}, []int{2, 1, 0}, nil},
	{"two alike that rise", []int{1, 1, 2, 0}, []int{3, 0, 1, 2}, nil},
	{"two alike that fall", []int{2, 1, 1, 0}, []int{3, 2, 1, 0}, nil},
	{"the reduced one has two codes", []int{2, 1, 2, 0}, []int{3, 1, 2, 0}, [][]int{{1, 0}}},
	{"two codes below, of great ones", []int{65535, 65534, 65535, 0}, []int{3, 1, 2, 0}, [][]int{{1, 0}}},
	{"a level with a name twice", []int{3, 1, 2, 3, 1, 2, 3, 1, 3, 0}, []int{9, 1, 4, 7, 2, 5, 8, 0, 3, 6}, [][]int{{1, 1, 2, 0}}},
	{"three levels", []int{2, 1, 3, 1, 2, 1, 2, 1, 4, 0}, []int{9, 3, 5, 1, 7, 4, 0, 6, 2, 8}, [][]int{{2, 1, 1, 3, 0}, {1, 0}}},
	{"the stage's", []int{3, 1, 2, 1, 2, 3, 1, 2, 1, 0}, []int{9, 8, 6, 1, 3, 7, 2, 4, 5, 0}, [][]int{{2, 3, 1, 0}}},
	{"a piece again and again", []int{1, 2, 1, 2, 1, 2, 0}, []int{6, 4, 2, 0, 5, 3, 1}, [][]int{{2, 1, 0}}},
	{"a longer one again and again", []int{5, 5, 1, 5, 5, 1, 5, 5, 1, 5, 5, 0}, []int{11, 8, 5, 2, 10, 7, 4, 1, 9, 6, 3, 0}, [][]int{{2, 2, 1, 0}}},
}

// P17.1, P17.2: Order, Ranks and Levels of the named texts.
func TestNamed(t *testing.T) {
	for _, c := range namedTexts {
		order, e := sais.Order(c.text...)
		wantList(t, c.what, c.text, order, e, c.order)
		l, e := sais.Ranks(c.text...)
		wantList(t, c.what, c.text, l, e, ranks(c.order))
		texts, e := sais.Levels(c.text...)
		wantLevels(t, c.text, texts, e, append([][]int{c.text}, c.levels...))
		agree(t, c.text)
	}
}

// P17.1, P17.2: the order is what comparing the suffixes tells, for all texts of a few codes.
func TestAllShort(t *testing.T) { eachShort(func(m model) { agree(t, m) }) }

// The same of all texts of few codes that are far from each other, some of them great.
func TestAllOfFarCodes(t *testing.T) {
	for n := range 6 {
		eachList(n, []int{1, 3, 40, 300}, func(l []int) { agree(t, append(l, 0)) })
	}
	for n := range 4 {
		eachList(n, []int{2, 65534, 65535}, func(l []int) { agree(t, append(l, 0)) })
	}
}

// The same of longer ones.
func TestLong(t *testing.T) {
	eachLong([]int{1, 2, 3, 4, 5, 8, 9, 10, 15, 16, 17, 19, 20, 21, 40, 100, 255, 256, 257, 600, 1500}, func(m model) { agree(t, m) })
}

// The same of texts that repeat each short piece.
func TestRepeated(t *testing.T) {
	for count := 1; count < 6; count++ {
		eachList(count, []int{1, 2, 3}, func(piece []int) {
			for _, n := range []int{2, 6, 19, 64} {
				agree(t, repeated(n, piece...))
			}
		})
	}
	for _, piece := range [][]int{{1, 2, 1, 1, 2}, {2, 1, 2, 2, 1, 3}, {1, 1, 2, 1, 2, 2, 1, 2}, deep(20)[:19], deep(81)[:80], drawn(60, fibonacci(59))[:59]} {
		for _, n := range []int{100, 777, 1600} {
			agree(t, repeated(n, piece...))
		}
	}
}

// P17.1, P17.2: the longest texts whose order is known.
func TestLongest(t *testing.T) {
	n := 65536
	unlike := append(mixed(rising(n)[1:], 3), 0)
	halves := slices.Concat([]int{n - 1}, rising(n-1)) // 1 2 1 2 .. 1 0: the last 1, then the others from the last one on
	for i := range halves[1:] {
		halves[1+i] = n - 2 - 2*i
		if i >= n/2 {
			halves[1+i] += n - 1
		}
	}
	for _, c := range []struct {
		what  string
		text  model
		order []int
	}{
		{"alike", drawn(n, func(int) int { return 3 }), back(rising(n))},
		{"alike and great", drawn(n, func(int) int { return 65535 }), back(rising(n))},
		{"falling", drawn(n, func(i int) int { return n - 1 - i }), back(rising(n))},
		{"rising", drawn(n, func(i int) int { return i + 1 }), append([]int{n - 1}, rising(n-1)...)},
		{"unlike", unlike, ranks(unlike)},
		{"1 and 2", repeated(n, 1, 2), halves},
	} {
		order, e := sais.Order(c.text...)
		wantList(t, c.what, c.text, order, e, c.order)
		l, e := sais.Ranks(c.text...)
		wantList(t, c.what, c.text, l, e, ranks(c.order))
	}
}

// P17.1, P17.2: of no text Order, Levels and Ranks have Check's error, and nothing beside it.
func TestWrongTexts(t *testing.T) {
	met := map[api.Errno]int{}
	for _, m := range wrongTexts() {
		met[m.wrong()]++
		refused(t, m)
	}
	if len(met) != 3 || met[api.OK] > 0 {
		t.Errorf("not each of the errors was met: %v", met)
	}
}

// refused: each call that takes a text tells what is wrong with this one.
func refused(t *testing.T, m model) {
	t.Helper()
	order, e := sais.Order(m...)
	wantErrno(t, "Order", order == nil, e, m.wrong())
	texts, e := sais.Levels(m...)
	wantErrno(t, "Levels", texts == nil, e, m.wrong())
	l, e := sais.Ranks(m...)
	wantErrno(t, "Ranks", l == nil, e, m.wrong())
}

// The same of all lists of few numbers: those that are a text are ordered.
func TestAllLists(t *testing.T) {
	for n := range 6 {
		eachList(n, []int{-1, 0, 1, 2, 65535, 65536}, func(l []int) {
			if model(l).wrong() == api.OK {
				agree(t, l)
				return
			}
			refused(t, l)
		})
	}
}

// P1: where two errors apply, it is the one named first; one code too many, too great or below 0 in very many.
func TestWrongInVeryMany(t *testing.T) {
	for _, m := range []model{deep(65536), repeated(65536, 1, 2), drawn(65536, func(i int) int { return i + 1 })} {
		for _, at := range []int{0, 1, 40000, 65534, 65535} {
			for _, code := range []int{-1, 65536, 0} {
				told := slices.Clone(m)
				told[at] = code
				if told.wrong() != api.OK {
					refused(t, told)
				}
				refused(t, append(told, 0))
			}
		}
		refused(t, append(slices.Clone(m), 0))
		refused(t, m[:65535])
	}
}
