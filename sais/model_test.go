package sais_test

import (
	"math"
	"slices"
	"sort"
	"testing"

	"incipit/api"
)

// model is a text, of which all is found out code by code.
type model []int

// wrong: what is wrong with it, if it is to be a text.
func (m model) wrong() api.Errno {
	if len(m) > 65536 {
		return api.ErrLong
	}
	zeros := 0
	for _, code := range m {
		if code < 0 || code > 65535 {
			return api.ErrRange
		}
		if code == 0 {
			zeros++
		}
	}
	if zeros != 1 || m[len(m)-1] != 0 {
		return api.ErrForm
	}
	return api.OK
}

// less: at the first place where the two suffixes aren't the same, has the one at a the smaller code?
func (m model) less(a, b int) bool {
	for a < len(m) && b < len(m) {
		if m[a] != m[b] {
			return m[a] < m[b]
		}
		a, b = a+1, b+1
	}
	return false
}

// order: all places, their suffixes rising.
func (m model) order() []int {
	l := rising(len(m))
	sort.Slice(l, func(i, k int) bool { return m.less(l[i], l[k]) })
	return l
}

// firsts: the first Ss.
func (m model) firsts() []int {
	isS := func(place int) bool { return place == len(m)-1 || m.less(place, place+1) }
	var l []int
	for i := 1; i < len(m); i++ {
		if isS(i) && !isS(i-1) {
			l = append(l, i)
		}
	}
	return l
}

// pieces: those of the first Ss, by places.
func (m model) pieces() [][]int {
	var l [][]int
	firsts := m.firsts()
	for i, at := range firsts {
		if i == len(firsts)-1 {
			l = append(l, []int{0})
		} else {
			l = append(l, m[at:firsts[i+1]+1])
		}
	}
	return l
}

// byPieces: which of two pieces stands ahead in an order that is induced? Where one is the beginning of the other, its
// last place is of kind S, and there the longer one is of kind L, which is less.
func byPieces(a, b []int) int {
	for i := range min(len(a), len(b)) {
		if a[i] != b[i] {
			return a[i] - b[i]
		}
	}
	return len(b) - len(a)
}

// reduced: the names of the first Ss, by places: how many unlike pieces stand ahead of each one's.
func (m model) reduced() model {
	pieces := m.pieces()
	unlike := slices.Clone(pieces)
	slices.SortFunc(unlike, byPieces)
	unlike = slices.CompactFunc(unlike, slices.Equal[[]int])
	var l model
	for _, p := range pieces {
		name, _ := slices.BinarySearchFunc(unlike, p, byPieces)
		l = append(l, name)
	}
	return l
}

// unlike: is no number there that stands further ahead, too?
func unlike(l []int) bool {
	l = slices.Clone(l)
	slices.Sort(l)
	for i := 1; i < len(l); i++ {
		if l[i] == l[i-1] {
			return false
		}
	}
	return true
}

// levels: the texts of all levels.
func (m model) levels() [][]int {
	l := [][]int{m}
	for !unlike(m) {
		m = m.reduced()
		if len(m) < 2 {
			return l
		}
		l = append(l, m)
	}
	return l
}

// ranks: where each number stands in an order.
func ranks(order []int) []int {
	l := make([]int, len(order))
	for row, place := range order {
		l[place] = row
	}
	return l
}

// deepest: how many levels there are at most.
func deepest(n int) int {
	if n < 1 {
		return 0
	}
	levels := 1
	for n >= 2 {
		n /= 2
		levels++
	}
	return levels
}

// docsText: the text of documents.
func docsText(docs [][]byte) model {
	var m model
	for _, doc := range docs {
		for _, b := range doc {
			m = append(m, int(b)+2)
		}
		m = append(m, 1)
	}
	return append(m, 0)
}

// next has no chance in it: the same numbers each time.
func next(seed *uint64, below int) int {
	*seed = *seed*6364136223846793005 + 1442695040888963407
	return int(*seed>>33) % below
}

// mixed: these numbers, in another order.
func mixed(l []int, seed uint64) []int {
	l = slices.Clone(l)
	for i := range l {
		k := i + next(&seed, len(l)-i)
		l[i], l[k] = l[k], l[i]
	}
	return l
}

// back: these numbers, turned round.
func back(l []int) []int {
	l = slices.Clone(l)
	slices.Reverse(l)
	return l
}

// rising: all numbers from 0 on.
func rising(n int) []int {
	l := make([]int, n)
	for i := range l {
		l[i] = i
	}
	return l
}

// drawn: a text of n codes, each but the last one as it is told.
func drawn(n int, code func(i int) int) model {
	m := make(model, n)
	for i := range n - 1 {
		m[i] = code(i)
	}
	return m
}

// repeated: a text of n codes that repeats a short piece.
func repeated(n int, piece ...int) model {
	return drawn(n, func(i int) int { return piece[i%len(piece)] })
}

// fibonacci: n codes, of which many begin alike for long.
func fibonacci(n int) func(i int) int {
	a, b := []int{1}, []int{1, 2}
	for len(b) < n {
		a, b = b, append(slices.Clone(b), a...)
	}
	return func(i int) int { return b[i] }
}

// ones: how many bits of a number are 1.
func ones(i int) int {
	n := 0
	for ; i > 0; i /= 2 {
		n += i % 2
	}
	return n
}

// shapes: what the codes of a text of n may be like.
func shapes(n int) []func(i int) int {
	var seed uint64 = uint64(n)
	deepest := deep(n)
	unlike := mixed(rising(n), seed)
	return []func(i int) int{
		func(int) int { return 1 },
		func(int) int { return 65535 },
		func(i int) int { return i + 1 },
		func(i int) int { return n - i },
		func(i int) int { return 65535 - i },
		func(i int) int { return min(1+unlike[i], 65535) },
		func(i int) int { return 1 + i%2 },
		func(i int) int { return 2 - i%2 },
		func(i int) int { return 1 + i%2*65534 },
		func(i int) int { return 1 + i%3 },
		func(i int) int { return 3 - i%3 },
		func(i int) int { return 1 + min(i%10, 10-i%10) },
		func(i int) int { return 1 + i/3 },
		func(i int) int { return 1 + (n-i)/4 },
		func(i int) int { return 1 + i*i%7 },
		func(i int) int { return 1 + i*i%7%3 },
		func(i int) int { return 1 + max(0, i-n/2) },
		func(i int) int { return 1 + i%2*(1+i/7%3) },
		func(i int) int { return 1 + i%2*max(0, n/2-i) },
		func(i int) int { return 1 + (i+1)%max(1, n/2)/max(1, n/2-1) },
		func(i int) int { return 1 + ones(i)%2 },
		func(i int) int { return 1 + ones(i)%3 },
		func(i int) int { return 1 + ones(i)%2*(i%5) },
		func(i int) int { return deepest[i] },
		fibonacci(n),
		func(int) int { return 1 + next(&seed, 65535) },
		func(int) int { return 1 + next(&seed, 2) },
		func(int) int { return 1 + next(&seed, 4) },
		func(int) int { return 65535 - next(&seed, 3) },
		func(int) int { return 1 + next(&seed, 1+next(&seed, 30)) },
	}
}

// eachLong: texts of many shapes, of these lengths.
func eachLong(lengths []int, do func(m model)) {
	for _, n := range lengths {
		for _, code := range shapes(n) {
			do(drawn(n, func(i int) int { return min(code(i), 65535) }))
		}
	}
}

// eachList: all lists of n of these numbers.
func eachList(n int, of []int, do func(l []int)) {
	at := make([]int, n)
	for {
		l := make([]int, n)
		for i := range l {
			l[i] = of[at[i]]
		}
		do(l)
		i := 0
		for i < n && at[i] == len(of)-1 {
			at[i] = 0
			i++
		}
		if i == n {
			return
		}
		at[i]++
	}
}

// eachShort: all texts of a few codes.
func eachShort(do func(m model)) {
	for n := range 12 {
		of := []int{1, 2, 3, 4}
		switch {
		case n > 8:
			of = of[:2]
		case n > 6:
			of = of[:3]
		}
		eachList(n, of, func(l []int) { do(append(l, 0)) })
	}
}

// most: how many levels a text of n codes can have. Two take two first Ss and a code that is there twice: four codes at
// least. Three take such a text as the second one, but there the last code but one is there once, as its piece alone ends
// with 0: that are five codes at least, and ten ahead. From there on each level takes twice as many codes.
func most(n int) int {
	switch {
	case n < 4:
		return 1
	case n < 10:
		return 2
	}
	return 1 + most(n/2)
}

// deep: a text of n codes that has so many levels. Each code c of the next level is made by a piece 1 c+1 1 (that of the
// last one but one ends with 0), and its 0 by the end; the rest is 2, ahead of all, where no first S is.
func deep(n int) model {
	switch {
	case n < 4:
		return drawn(n, func(int) int { return 1 })
	case n == 4:
		return model{2, 1, 2, 0}
	case n < 10:
		return append(slices.Repeat(model{2}, n-4), 1, 1, 3, 0)
	}
	m := slices.Repeat(model{2}, 1+n%2)
	for _, code := range deep(n / 2)[:n/2-1] {
		m = append(m, 1, code+1)
	}
	return append(m, 0)
}

// far is far off whatever a code may be.
var far = []int{math.MinInt, math.MinInt + 1, -1 << 32, -65536, -65535, -2, 65537, 131071, 131072, 1 << 32, 1<<32 + 1, math.MaxInt - 1, math.MaxInt}

// wrongTexts: no texts, with each of the errors.
func wrongTexts() []model {
	l := []model{
		nil, {}, {1}, {65535}, {0, 0}, {0, 1}, {0, 1, 0}, {1, 0, 0}, {1, 0, 1, 0}, {1, 0, 1}, {5, 6, 7}, {0, 0, 0}, {2, 1, 2, 1},
		{-1}, {-1, 0}, {65536, 0}, {65536}, {1, -1, 0}, {1, 65536, 0}, {-1, 0, 1}, {0, -1, 0}, {0, 65536}, {1, 0, -1}, {1, 0, 65536},
		drawn(65537, func(int) int { return 1 }), drawn(65537, func(i int) int { return 2 - i%2 }), drawn(70000, func(int) int { return -1 }),
		make(model, 65537), make(model, 65536), drawn(65537, func(i int) int { return i }), drawn(65536, func(i int) int { return i }),
		drawn(65537, func(i int) int { return i + 1 }), drawn(65536, func(i int) int { return i + 2 }), drawn(65536, func(int) int { return 65536 }),
	}
	for _, code := range far {
		l = append(l, model{code}, model{code, 0}, model{2, 1, code, 1, 0})
	}
	return l
}

// wantErrno: that error, and nothing beside it.
func wantErrno(t *testing.T, what string, nothing bool, e, want api.Errno) {
	t.Helper()
	if !nothing || e != want {
		t.Errorf("%s: %d, nothing beside it %v, want %d", what, e, nothing, want)
	}
}

// wantList: that list, and no error.
func wantList(t *testing.T, what string, text, l []int, e api.Errno, want []int) {
	t.Helper()
	if e != api.OK || !slices.Equal(l, want) {
		t.Fatalf("%s of %d codes %v: %v %d, want %v", what, len(text), text[:min(len(text), 20)], l[:min(len(l), 40)], e, want[:min(len(want), 40)])
	}
}

// wantLevels: those levels, and no error.
func wantLevels(t *testing.T, text []int, l [][]int, e api.Errno, want [][]int) {
	t.Helper()
	if e != api.OK || len(l) != len(want) {
		t.Fatalf("Levels of %d codes %v: %d levels, %d, want %d levels", len(text), text[:min(len(text), 20)], len(l), e, len(want))
	}
	for i := range l {
		wantList(t, "a level", text, l[i], e, want[i])
	}
}

// spoil: all of the list is this, what it has room for too.
func spoil[T any](l []T, with T) {
	l = l[:cap(l)]
	for i := range l {
		l[i] = with
	}
}
