package induce_test

import (
	"slices"
	"testing"

	"incipit/api"
	"incipit/induce"
)

// agreeNames: the names in an order of all places, as the model tells them.
func agreeNames(t *testing.T, m model, order []int) {
	t.Helper()
	want, wantCount := m.names(order)
	l, count, e := induce.Names(m.text, order)
	wantList(t, "Names", m.text, l, e, want)
	if count != wantCount {
		t.Fatalf("Names(%v, %v): %d of them, want %d", m.text, order, count, wantCount)
	}
}

// P16.1: Names of the named texts and orders.
func TestNames(t *testing.T) {
	for _, c := range []struct {
		text, order, names []int
		count              int
	}{
		{[]int{0}, []int{0}, nil, 0},
		{[]int{1, 0}, []int{1, 0}, []int{0}, 1},
		{[]int{1, 0}, []int{0, 1}, []int{0}, 1},
		{[]int{2, 1, 2, 1, 0}, []int{4, 3, 1, 2, 0}, []int{1, 0}, 2},
		{[]int{2, 1, 2, 1, 0}, []int{1, 0, 3, 4, 2}, []int{0, 1}, 2},
		// First Ss 1, 3, 5, 7: the pieces of 1 and 3 are alike, and that of 5 begins like them.
		{[]int{2, 1, 2, 1, 2, 1, 2, 0}, []int{7, 5, 3, 1, 6, 4, 2, 0}, []int{2, 2, 1, 0}, 3},
		{[]int{2, 1, 2, 1, 2, 1, 2, 0}, []int{7, 5, 1, 3, 6, 4, 2, 0}, []int{2, 2, 1, 0}, 3},
		{[]int{2, 1, 2, 1, 2, 1, 2, 0}, []int{1, 0, 2, 3, 4, 5, 6, 7}, []int{0, 0, 1, 2}, 3},
		{[]int{2, 1, 2, 1, 2, 1, 2, 0}, []int{1, 5, 3, 7, 0, 2, 4, 6}, []int{0, 2, 1, 3}, 4},
		{[]int{2, 1, 2, 1, 2, 1, 2, 0}, []int{3, 7, 1, 5, 0, 2, 4, 6}, []int{2, 0, 3, 1}, 4},
		{[]int{2, 1, 2, 1, 2, 1, 2, 0}, []int{7, 6, 5, 4, 3, 2, 1, 0}, []int{2, 2, 1, 0}, 3},
		// First Ss 1, 3, 6: 1 2 1 is the beginning of the piece 1 2 1 0.
		{[]int{2, 1, 2, 1, 2, 1, 0}, []int{6, 5, 3, 1, 4, 2, 0}, []int{2, 1, 0}, 3},
	} {
		l, count, e := induce.Names(c.text, c.order)
		wantList(t, "Names", c.text, l, e, c.names)
		if count != c.count {
			t.Errorf("Names(%v, %v): %d of them, want %d", c.text, c.order, count, c.count)
		}
	}
}

// P16.1: Names, as the model, of all texts of a few codes, in all orders of their places.
func TestNamesOfAllOrders(t *testing.T) {
	for n := range 7 {
		eachList(n, []int{1, 2, 3}[:3-n/5], func(l []int) {
			m := of(append(l, 0))
			eachOrder(rising(n+1), func(order []int) { agreeNames(t, m, order) })
		})
	}
}

// The same of longer ones, in orders that were induced, and in others.
func TestNamesOfLong(t *testing.T) {
	check := func(text []int) {
		m := of(text)
		for _, firsts := range ordersOf(m) {
			agreeNames(t, m, m.induced(firsts))
			agreeNames(t, m, back(m.induced(firsts)))
		}
		agreeNames(t, m, rising(len(text)))
		for seed := range uint32(5) {
			agreeNames(t, m, mixed(rising(len(text)), seed))
		}
	}
	eachShort(check)
	eachLong([]int{1, 2, 3, 9, 30, 31, 200, 400}, check)
}

// wrongOrders: lists that are not all of n numbers, each one once, made of an order that is.
func wrongOrders(order []int) [][]int {
	n := len(order)
	l := [][]int{append(slices.Clone(order), n), append([]int{0}, order...), rising(n + 1), rising(n + 2)[1:], make([]int, n+1), {-1}, {n}, {0, 0}}
	if n > 0 {
		l = append(l, nil, []int{}, order[:n-1], order[1:], append(slices.Clone(order), order...), make([]int, n-1), slices.Repeat([]int{n - 1}, n+1))
	}
	for i := range order {
		for _, number := range append([]int{-1, n, n + 1}, far...) {
			told := slices.Clone(order)
			told[i] = number
			l = append(l, told, slices.Insert(slices.Clone(order), i, number))
		}
		l = append(l, slices.Insert(slices.Clone(order), i, order[i]), slices.Delete(slices.Clone(order), i, i+1))
		for k := range order {
			if k != i {
				twice := slices.Clone(order)
				twice[i] = twice[k]
				l = append(l, twice)
			}
		}
	}
	return l
}

// P16.1: Names of an order that isn't all places, each one once.
func TestNamesOfWrongOrders(t *testing.T) {
	check := func(text []int) {
		m := of(text)
		for _, order := range [][]int{m.induced(m.firsts), rising(len(text))} {
			for _, told := range wrongOrders(order) {
				l, count, e := induce.Names(text, told)
				wantErrno(t, "Names", len(l) == 0 && count == 0, e, api.ErrForm)
			}
		}
	}
	check([]int{0})
	check([]int{2, 1, 2, 1, 2, 1, 2, 0})
	eachLong([]int{1, 2, 3, 12}, check)
	for n := 1; n < 5; n++ {
		m := of(drawn(n, func(i int) int { return 2 - i%2 }))
		for count := range 6 {
			eachList(count, append(rising(n+1), -1), func(told []int) {
				if sameOnes(told, rising(n)) {
					agreeNames(t, m, told)
					return
				}
				l, count, e := induce.Names(m.text, told)
				wantErrno(t, "Names", len(l) == 0 && count == 0, e, api.ErrForm)
			})
		}
	}
}

// P16.1: Names of the longest texts, also where one place of very many is wrong.
func TestNamesOfLongest(t *testing.T) {
	text := drawn(65536, func(i int) int { return 2 - i%2 })
	want := slices.Repeat([]int{2}, 32768)
	want[32766], want[32767] = 1, 0
	order := back(rising(65536))
	l, count, e := induce.Names(text, order)
	wantList(t, "Names", text, l, e, want)
	if count != 3 {
		t.Errorf("%d names", count)
	}
	for _, i := range []int{0, 1, 40000, 65535} {
		for _, place := range []int{-1, 65536, order[(i+1)%65536]} {
			told := slices.Clone(order)
			told[i] = place
			l, count, e := induce.Names(text, told)
			wantErrno(t, "Names", len(l) == 0 && count == 0, e, api.ErrForm)
		}
	}
}

// P16.2: Reduced of texts with no first S, with one, with many, with pieces that are alike.
func TestReduced(t *testing.T) {
	for _, c := range []struct{ text, names []int }{
		{[]int{0}, nil},
		{[]int{1, 0}, []int{0}},
		{[]int{4, 4, 4, 0}, []int{0}},
		{[]int{1, 2, 3, 0}, []int{0}},
		{[]int{3, 2, 1, 0}, []int{0}},
		{[]int{2, 1, 2, 1, 0}, []int{1, 0}},
		{[]int{2, 1, 2, 0}, []int{1, 0}},
		{[]int{2, 1, 2, 1, 2, 1, 2, 0}, []int{2, 2, 1, 0}},
		{[]int{2, 1, 2, 1, 2, 1, 0}, []int{2, 1, 0}},
		{[]int{3, 1, 2, 1, 2, 3, 1, 2, 1, 0}, []int{2, 3, 1, 0}},
		{[]int{3, 1, 2, 3, 1, 2, 3, 1, 3, 0}, []int{1, 1, 2, 0}},
		{[]int{9, 7, 9, 5, 9, 3, 9, 0}, []int{3, 2, 1, 0}},
		{[]int{9, 3, 9, 5, 9, 7, 9, 0}, []int{1, 2, 3, 0}},
		{[]int{9, 7, 9, 7, 9, 3, 9, 7, 9, 0}, []int{4, 3, 1, 2, 0}},
		{drawn(65536, func(i int) int { return 2 - i%2 }), append(slices.Repeat([]int{2}, 32766), 1, 0)},
		{drawn(65536, func(int) int { return 65535 }), []int{0}},
		{drawn(65536, func(i int) int { return i + 1 }), []int{0}},
		{drawn(65536, func(i int) int { return 65535 - i }), []int{0}},
	} {
		l, e := induce.Reduced(c.text)
		wantList(t, "Reduced", c.text, l, e, c.names)
	}
}

// P16.2: Reduced, as the model, of all texts of a few codes and of longer ones.
func TestAllReduced(t *testing.T) {
	check := func(text []int) {
		l, e := induce.Reduced(text)
		wantList(t, "Reduced", text, l, e, of(text).reduced())
	}
	eachShort(check)
	eachLong([]int{1, 2, 3, 4, 7, 8, 15, 50, 128, 255, 500}, check)
}
