package induce_test

import (
	"slices"
	"testing"

	"incipit/api"
	"incipit/induce"
)

// agreeInduced: the order that is induced from these first Ss, as the model tells it.
func agreeInduced(t *testing.T, m model, firsts []int) {
	t.Helper()
	order, e := induce.Induce(m.text, firsts...)
	wantList(t, "Induce", m.text, order, e, m.induced(firsts))
}

// P16.1: Induce of the named texts, the first Ss in each order that is told.
func TestInduced(t *testing.T) {
	for _, c := range []struct{ text, firsts, order []int }{
		{[]int{0}, nil, []int{0}},
		{[]int{1, 0}, []int{1}, []int{1, 0}},
		{[]int{3, 3, 3, 0}, []int{3}, []int{3, 2, 1, 0}},
		{[]int{1, 2, 3, 0}, []int{3}, []int{3, 0, 1, 2}},
		{[]int{2, 1, 2, 1, 0}, []int{1, 4}, []int{4, 3, 1, 2, 0}},
		{[]int{2, 1, 2, 1, 2, 1, 0}, []int{6, 3, 1}, []int{6, 5, 3, 1, 4, 2, 0}},
		{[]int{2, 1, 2, 1, 2, 1, 0}, []int{1, 3, 6}, []int{6, 5, 3, 1, 4, 0, 2}},
		// 1 and 4 have pieces that are alike, so how they stand hangs on how the first Ss are told.
		{[]int{3, 1, 2, 3, 1, 2, 3, 1, 3, 0}, []int{9, 1, 4, 7}, []int{9, 1, 4, 7, 2, 5, 8, 0, 3, 6}},
		{[]int{3, 1, 2, 3, 1, 2, 3, 1, 3, 0}, []int{9, 4, 1, 7}, []int{9, 1, 4, 7, 2, 5, 8, 3, 0, 6}},
		{[]int{3, 1, 2, 3, 1, 2, 3, 1, 3, 0}, []int{7, 4, 1, 9}, []int{9, 4, 1, 7, 5, 2, 8, 6, 3, 0}},
	} {
		order, e := induce.Induce(c.text, c.firsts...)
		wantList(t, "Induce", c.text, order, e, of(c.text).induced(c.firsts))
		if !slices.Equal(order, c.order) {
			t.Errorf("Induce(%v, %v) = %v, want %v", c.text, c.firsts, order, c.order)
		}
	}
}

// P16.1: Induce, as the model, of all texts of a few codes, from their first Ss in all orders.
func TestInducedOfAllShort(t *testing.T) {
	eachShort(func(text []int) {
		m := of(text)
		eachOrder(m.firsts, func(firsts []int) { agreeInduced(t, m, firsts) })
	})
}

// ordersOf: the first Ss of a text as they stand, turned round, in the order of their suffixes, and in others.
func ordersOf(m model) [][]int {
	inOrder := m.sorted(m.firsts)
	l := [][]int{m.firsts, back(m.firsts), inOrder, back(inOrder)}
	for seed := range uint32(4) {
		l = append(l, mixed(m.firsts, seed))
	}
	for _, i := range []int{0, len(inOrder) / 2, len(inOrder) - 2} {
		if i >= 0 && i+1 < len(inOrder) {
			swapped := slices.Clone(inOrder)
			swapped[i], swapped[i+1] = swapped[i+1], swapped[i]
			l = append(l, swapped)
		}
	}
	return l
}

// The same of longer ones, in some orders.
func TestInducedOfLong(t *testing.T) {
	eachLong([]int{1, 2, 3, 4, 5, 8, 16, 17, 40, 101, 256, 500}, func(text []int) {
		m := of(text)
		for _, firsts := range ordersOf(m) {
			agreeInduced(t, m, firsts)
		}
	})
}

// wrongFirsts: lists that are not just a text's first Ss, each one once; some others that come about are left out.
func wrongFirsts(m model) [][]int {
	n, count := len(m.text), len(m.firsts)
	l := [][]int{{}, {0}, {-1}, {n}, {n - 1}, rising(n), rising(count), append(slices.Clone(m.firsts), m.firsts...)}
	more := append(rising(n), -1, n, n+1, n-1)
	more = append(more, far...)
	for i := range count + 1 {
		for _, place := range more {
			l = append(l, slices.Insert(slices.Clone(m.firsts), i, place))
		}
	}
	for i := range count {
		l = append(l, slices.Delete(slices.Clone(m.firsts), i, i+1))
		for _, place := range more {
			told := slices.Clone(m.firsts)
			told[i] = place
			l = append(l, told)
		}
	}
	return slices.DeleteFunc(l, func(told []int) bool { return sameOnes(told, m.firsts) })
}

// P16.1: Induce from what isn't just the first Ss: one missing, too many, told twice, of kind S and no first S, of kind L, no place.
func TestWrongFirsts(t *testing.T) {
	check := func(text []int) {
		m := of(text)
		for seed, told := range wrongFirsts(m) {
			order, e := induce.Induce(text, told...)
			wantErrno(t, "Induce", len(order) == 0, e, api.ErrForm)
			order, e = induce.Induce(text, mixed(told, uint32(seed))...)
			wantErrno(t, "Induce", len(order) == 0, e, api.ErrForm)
		}
	}
	check([]int{0})
	check([]int{1, 3, 2, 2, 3, 1, 1, 4, 4, 0})
	check([]int{1, 1, 2, 0})
	eachLong([]int{1, 2, 3, 6, 15}, check)
}

// The same of all lists of few places, of all texts of a few codes.
func TestFirstsOfAllLists(t *testing.T) {
	for n := range 5 {
		eachList(n, []int{1, 2}, func(l []int) {
			m := of(append(l, 0))
			for count := range 4 {
				eachList(count, append(rising(n+2), -1), func(told []int) {
					if sameOnes(told, m.firsts) {
						agreeInduced(t, m, told)
						return
					}
					order, e := induce.Induce(m.text, told...)
					if len(order) != 0 || e != api.ErrForm {
						t.Fatalf("Induce(%v, %v) = %v %d", m.text, told, order, e)
					}
				})
			}
		})
	}
}

// P16.1: Induce of the longest texts, with one wrong one among many.
func TestFirstsOfLongest(t *testing.T) {
	text := drawn(65536, func(i int) int { return 2 - i%2 })
	var firsts, want []int
	for i := 1; i < 65536; i += 2 {
		firsts = append(firsts, i)
	}
	// Of the ones each one's suffix is above that of the next one, as the text ends with the least one.
	want = append(want, back(firsts)...)
	for i := 65534; i >= 0; i -= 2 {
		want = append(want, i)
	}
	order, e := induce.Induce(text, back(firsts)...)
	wantList(t, "Induce", text, order, e, want)
	for _, i := range []int{0, 1, 20000, 32766, 32767} {
		for _, place := range []int{firsts[i] - 1, firsts[i] + 1, firsts[i] + 2, -1, 65536, firsts[(i+1)%32768]} {
			told := slices.Clone(firsts)
			told[i] = place
			if sameOnes(told, firsts) {
				continue
			}
			order, e := induce.Induce(text, told...)
			wantErrno(t, "Induce", len(order) == 0, e, api.ErrForm)
		}
	}
	for _, told := range [][]int{firsts[1:], firsts[:32767], append(firsts, 65535), append(firsts, 0), rising(65536), make([]int, 32768), slices.Repeat([]int{65535}, 100000)} {
		order, e := induce.Induce(text, told...)
		wantErrno(t, "Induce", len(order) == 0, e, api.ErrForm)
	}
}
