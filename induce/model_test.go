package induce_test

import (
	"math"
	"slices"
	"sort"
	"testing"

	"incipit/api"
)

// model is a text, of which all is done step by step, as the chapter's words tell it.
type model struct {
	text   []int
	isS    []bool
	firsts []int
}

// of: the model of a text, its kinds found out code by code.
func of(text []int) model {
	m := model{text: text, isS: make([]bool, len(text))}
	for i := range text {
		m.isS[i] = i == len(text)-1 || m.less(i, i+1)
		if i > 0 && m.isS[i] && !m.isS[i-1] {
			m.firsts = append(m.firsts, i)
		}
	}
	return m
}

// less: at the first place where the two suffixes aren't the same, has the one at a the smaller code?
func (m model) less(a, b int) bool {
	for a < len(m.text) && b < len(m.text) {
		if m.text[a] != m.text[b] {
			return m.text[a] < m.text[b]
		}
		a, b = a+1, b+1
	}
	return false
}

// sorted: these places, their suffixes rising.
func (m model) sorted(places []int) []int {
	l := slices.Clone(places)
	sort.Slice(l, func(i, k int) bool { return m.less(l[i], l[k]) })
	return l
}

// buckets: of each code how many are smaller, and how many are smaller or the same.
func (m model) buckets() (heads, tails []int) {
	l := slices.Clone(m.text)
	slices.Sort(l)
	for code := 0; code <= l[len(l)-1]; code++ {
		head, _ := slices.BinarySearch(l, code)
		tail, _ := slices.BinarySearch(l, code+1)
		heads, tails = append(heads, head), append(tails, tail)
	}
	return heads, tails
}

// where: the places of the order at which a place's bucket stands.
func (m model) where(place int) []int {
	var l []int
	at := 0
	for _, code := range m.text {
		switch {
		case code < m.text[place]:
			at++
		case code == m.text[place]:
			l = append(l, len(l))
		}
	}
	for i := range l {
		l[i] += at
	}
	return l
}

// empty: where no place of the order stands.
const empty = -1

// toFirst: a place is put to the first empty place of its bucket.
func (m model) toFirst(order []int, place int) {
	for _, at := range m.where(place) {
		if order[at] == empty {
			order[at] = place
			return
		}
	}
	panic("a bucket is full")
}

// toEnd: a place is put to the end of its bucket, ahead of those that were put there.
func (m model) toEnd(order []int, place int) {
	l := m.where(place)
	for i := len(l) - 1; i >= 0; i-- {
		if order[l[i]] == empty {
			order[l[i]] = place
			return
		}
	}
	panic("a bucket is full")
}

// induced: the order that comes of first Ss, step by step.
func (m model) induced(firsts []int) []int {
	n := len(m.text)
	if n == 1 {
		return []int{0}
	}
	order := slices.Repeat([]int{empty}, n)
	for i := len(firsts) - 1; i >= 0; i-- {
		m.toEnd(order, firsts[i])
	}
	for at := 0; at < n; at++ {
		if i := order[at]; i > 0 && !m.isS[i-1] {
			m.toFirst(order, i-1)
		}
	}
	for at, i := range order {
		if i != empty && i != n-1 && m.isS[i] {
			order[at] = empty
		}
	}
	for at := n - 1; at >= 0; at-- {
		if i := order[at]; i > 0 && m.isS[i-1] {
			m.toEnd(order, i-1)
		}
	}
	return order
}

// piece: that of a first S, told by which of them it is.
func (m model) piece(number int) []int {
	if number == len(m.firsts)-1 {
		return []int{0}
	}
	return m.text[m.firsts[number] : m.firsts[number+1]+1]
}

// names: of the first Ss, by places, in an order of all places; and how many.
func (m model) names(order []int) ([]int, int) {
	l := make([]int, len(m.firsts))
	name := -1
	var ahead []int
	for _, place := range order {
		number := slices.Index(m.firsts, place)
		if number < 0 {
			continue
		}
		if name < 0 || !slices.Equal(m.piece(number), ahead) {
			name++
		}
		l[number] = name
		ahead = m.piece(number)
	}
	return l, name + 1
}

// reduced: the names of the order that is induced from first Ss as they stand.
func (m model) reduced() []int {
	l, _ := m.names(m.induced(m.firsts))
	return l
}

// sameOnes: are these the same numbers, however they stand?
func sameOnes(a, b []int) bool {
	a, b = slices.Clone(a), slices.Clone(b)
	slices.Sort(a)
	slices.Sort(b)
	return slices.Equal(a, b)
}

// wrong: what is wrong with a text.
func wrong(text []int) api.Errno {
	if len(text) > 65536 {
		return api.ErrLong
	}
	zeros := 0
	for _, code := range text {
		if code < 0 || code > 65535 {
			return api.ErrRange
		}
		if code == 0 {
			zeros++
		}
	}
	if zeros != 1 || text[len(text)-1] != 0 {
		return api.ErrForm
	}
	return api.OK
}

// next has no chance in it: the same numbers each time.
func next(seed *uint32, below int) int {
	*seed = *seed*1664525 + 1013904223
	return int(*seed>>8) % below
}

// mixed: these numbers, in another order.
func mixed(l []int, seed uint32) []int {
	l = slices.Clone(l)
	for i := range l {
		k := i + next(&seed, len(l)-i)
		l[i], l[k] = l[k], l[i]
	}
	return l
}

// back: these numbers, turned round.
func back(l []int) []int {
	l = slices.Clone(l)
	slices.Reverse(l)
	return l
}

// rising: all numbers from 0 on.
func rising(n int) []int {
	l := make([]int, n)
	for i := range l {
		l[i] = i
	}
	return l
}

// drawn: a text of n codes, each but the last one as it is told.
func drawn(n int, code func(i int) int) []int {
	l := make([]int, n)
	for i := range n - 1 {
		l[i] = code(i)
	}
	return l
}

// fibonacci: n codes, of which many begin alike for long.
func fibonacci(n int) func(i int) int {
	a, b := []int{1}, []int{1, 2}
	for len(b) < n {
		a, b = b, append(slices.Clone(b), a...)
	}
	return func(i int) int { return b[i] }
}

// shapes: what the codes of a text of n may be like.
func shapes(n int) []func(i int) int {
	var seed uint32 = uint32(n)
	return []func(i int) int{
		func(int) int { return 1 },
		func(int) int { return 65535 },
		func(i int) int { return i + 1 },
		func(i int) int { return n - i },
		func(i int) int { return 1 + i%2 },
		func(i int) int { return 2 - i%2 },
		func(i int) int { return 1 + i%2*700 },
		func(i int) int { return 1 + i%3 },
		func(i int) int { return 3 - i%3 },
		func(i int) int { return 1 + min(i%10, 10-i%10) },
		func(i int) int { return 1 + i/3 },
		func(i int) int { return 1 + (n-i)/4 },
		func(i int) int { return 1 + i*i%7 },
		func(i int) int { return 1 + max(0, i-n/2) },
		func(i int) int { return 1 + i%2*(1+i/7%3) },
		func(i int) int { return 1 + i%2*max(0, n/2-i) },
		func(i int) int { return 1 + (i+1)%max(1, n/2)/max(1, n/2-1) },
		fibonacci(n),
		func(int) int { return 1 + next(&seed, 65535) },
		func(int) int { return 1 + next(&seed, 2) },
		func(int) int { return 1 + next(&seed, 4) },
		func(int) int { return 900 - next(&seed, 3) },
		func(int) int { return 1 + next(&seed, 1+next(&seed, 30)) },
	}
}

// eachLong: texts of many shapes, of these lengths.
func eachLong(lengths []int, do func(text []int)) {
	for _, n := range lengths {
		for _, code := range shapes(n) {
			do(drawn(n, code))
		}
	}
}

// eachList: all lists of n of these numbers.
func eachList(n int, of []int, do func(l []int)) {
	at := make([]int, n)
	for {
		l := make([]int, n)
		for i := range l {
			l[i] = of[at[i]]
		}
		do(l)
		i := 0
		for i < n && at[i] == len(of)-1 {
			at[i] = 0
			i++
		}
		if i == n {
			return
		}
		at[i]++
	}
}

// eachOrder: these numbers in all orders.
func eachOrder(l []int, do func(l []int)) {
	var from func(l []int, at int)
	from = func(l []int, at int) {
		if at >= len(l)-1 {
			do(slices.Clone(l))
			return
		}
		for i := at; i < len(l); i++ {
			l[at], l[i] = l[i], l[at]
			from(l, at+1)
			l[at], l[i] = l[i], l[at]
		}
	}
	from(slices.Clone(l), 0)
}

// eachShort: all texts of a few codes.
func eachShort(do func(text []int)) {
	for n := range 10 {
		codes := []int{1, 2, 3, 4}
		if n > 6 {
			codes = codes[:2]
		}
		eachList(n, codes, func(l []int) { do(append(l, 0)) })
	}
}

// far is far off whatever a code, a place or a number may be.
var far = []int{math.MinInt, math.MinInt + 1, -1 << 32, -65536, -65535, -2, 65537, 131071, 131072, 1 << 32, 1<<32 + 1, math.MaxInt - 1, math.MaxInt}

// wrongTexts: no texts, with each of the errors.
func wrongTexts() [][]int {
	l := [][]int{
		nil, {}, {1}, {65535}, {0, 0}, {0, 1}, {0, 1, 0}, {1, 0, 0}, {1, 0, 1, 0}, {1, 0, 1}, {5, 6, 7}, {0, 0, 0}, {2, 1, 2, 1},
		{-1}, {-1, 0}, {65536, 0}, {65536}, {1, -1, 0}, {1, 65536, 0}, {-1, 0, 1}, {0, -1, 0}, {0, 65536}, {1, 0, -1}, {1, 0, 65536},
		drawn(65537, func(int) int { return 1 }), drawn(65537, func(i int) int { return 2 - i%2 }), drawn(70000, func(int) int { return -1 }),
		make([]int, 65537), make([]int, 65536), drawn(65537, func(i int) int { return i }), drawn(65536, func(i int) int { return i }),
	}
	for _, code := range far {
		l = append(l, []int{code}, []int{code, 0}, []int{2, 1, code, 1, 0})
	}
	return l
}

// wantErrno: that error, and nothing beside it.
func wantErrno(t *testing.T, what string, nothing bool, e, want api.Errno) {
	t.Helper()
	if !nothing || e != want {
		t.Errorf("%s: %d, nothing beside it %v, want %d", what, e, nothing, want)
	}
}

// wantList: that list, and no error.
func wantList(t *testing.T, what string, text, l []int, e api.Errno, want []int) {
	t.Helper()
	if e != api.OK || !slices.Equal(l, want) {
		t.Fatalf("%s of %d codes %v: %v %d, want %v", what, len(text), text[:min(len(text), 20)], l[:min(len(l), 40)], e, want[:min(len(want), 40)])
	}
}

// spoil: all of the list is this, what it has room for too.
func spoil(l []int, with int) {
	l = l[:cap(l)]
	for i := range l {
		l[i] = with
	}
}
