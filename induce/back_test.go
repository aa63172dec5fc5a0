package induce_test

import (
	"slices"
	"testing"

	"incipit/api"
	"incipit/induce"
)

// agreeBack: the k-th one of the answer is the first S that the k-th number tells.
func agreeBack(t *testing.T, m model, order []int) {
	t.Helper()
	want := make([]int, len(m.firsts))
	for k := range want {
		want[k] = m.firsts[order[k]]
	}
	l, e := induce.Back(m.text, order)
	wantList(t, "Back", m.text, l, e, want)
}

// P16.2: Back of the named orders.
func TestBack(t *testing.T) {
	text := []int{3, 1, 2, 1, 2, 3, 1, 2, 1, 0} // first Ss 1 3 6 9
	for _, c := range []struct{ text, order, firsts []int }{
		{[]int{0}, nil, nil},
		{[]int{1, 0}, []int{0}, []int{1}},
		{[]int{2, 1, 2, 1, 0}, []int{1, 0}, []int{4, 1}},
		{[]int{2, 1, 2, 1, 0}, []int{0, 1}, []int{1, 4}},
		{text, []int{0, 1, 2, 3}, []int{1, 3, 6, 9}},
		{text, []int{3, 2, 1, 0}, []int{9, 6, 3, 1}},
		{text, []int{3, 2, 0, 1}, []int{9, 6, 1, 3}},
		{text, []int{1, 2, 3, 0}, []int{3, 6, 9, 1}},
		{text, []int{3, 0, 1, 2}, []int{9, 1, 3, 6}},
	} {
		l, e := induce.Back(c.text, c.order)
		wantList(t, "Back", c.text, l, e, c.firsts)
	}
}

// P16.2: Back, as the words tell it, of all orders of a few, and of some of many.
func TestBackOfAllOrders(t *testing.T) {
	eachShort(func(text []int) {
		m := of(text)
		eachOrder(rising(len(m.firsts)), func(order []int) { agreeBack(t, m, order) })
	})
	eachOrder(rising(7), func(order []int) { agreeBack(t, of(drawn(14, func(i int) int { return 2 - i%2 })), order) })
	eachLong([]int{1, 2, 3, 17, 100, 600}, func(text []int) {
		m := of(text)
		all := rising(len(m.firsts))
		for _, order := range [][]int{all, back(all), mixed(all, 1), mixed(all, 2), mixed(all, 3)} {
			agreeBack(t, m, order)
		}
	})
}

// P16.2: Back of a number told twice, missing, below 0, too great, and of nothing where there are first Ss.
func TestBackOfWrongOrders(t *testing.T) {
	check := func(text []int) {
		m := of(text)
		all := rising(len(m.firsts))
		for _, order := range [][]int{all, back(all), mixed(all, 1)} {
			for _, told := range wrongOrders(order) {
				l, e := induce.Back(text, told)
				wantErrno(t, "Back", len(l) == 0, e, api.ErrForm)
			}
		}
	}
	check([]int{0})
	check([]int{3, 1, 2, 1, 2, 3, 1, 2, 1, 0})
	eachLong([]int{1, 2, 3, 12, 25}, check)
}

// The same of all lists of few numbers.
func TestBackOfAllLists(t *testing.T) {
	for _, text := range [][]int{{0}, {1, 0}, {2, 1, 2, 1, 0}, {1, 2, 1, 2, 1, 0}, {2, 1, 2, 1, 2, 1, 2, 0}} {
		m := of(text)
		for count := range 6 {
			eachList(count, append(rising(len(m.firsts)+1), -1), func(told []int) {
				if sameOnes(told, rising(len(m.firsts))) {
					agreeBack(t, m, told)
					return
				}
				l, e := induce.Back(text, told)
				wantErrno(t, "Back", len(l) == 0, e, api.ErrForm)
			})
		}
	}
}

// P16.2: Back of the longest texts; of places for numbers, and of numbers for a longer text.
func TestBackOfLongest(t *testing.T) {
	m := of(drawn(65536, func(i int) int { return 2 - i%2 }))
	if len(m.firsts) != 32768 {
		t.Fatalf("%d first Ss", len(m.firsts))
	}
	agreeBack(t, m, back(rising(32768)))
	agreeBack(t, m, mixed(rising(32768), 9))
	for _, told := range [][]int{rising(32767), rising(32769), rising(65536), m.firsts, make([]int, 32768), append(rising(32767), 32768), append(rising(32767), -1), nil} {
		l, e := induce.Back(m.text, told)
		wantErrno(t, "Back", len(l) == 0, e, api.ErrForm)
	}
	if l, e := induce.Back(m.text, rising(32768)); e != api.OK || !slices.Equal(l, m.firsts) {
		t.Errorf("Back of all, rising: %d of them, %d", len(l), e)
	}
}
