package suffix_test

import (
	"math"
	"slices"
	"sort"
	"testing"

	"incipit/api"
	"incipit/suffix"
)

// model is a text, of which all is found out code by code.
type model []int

// wrong: what is wrong with it, if it is to be a text.
func (m model) wrong() api.Errno {
	if len(m) > 65536 {
		return api.ErrLong
	}
	zeros := 0
	for _, code := range m {
		if code < 0 || code > 65535 {
			return api.ErrRange
		}
		if code == 0 {
			zeros++
		}
	}
	if zeros != 1 || m[len(m)-1] != 0 {
		return api.ErrForm
	}
	return api.OK
}

// has: is that place there?
func (m model) has(place int) bool { return place >= 0 && place < len(m) }

// less: at the first place where the two suffixes aren't the same, has the one at a the smaller code?
func (m model) less(a, b int) bool {
	for m.has(a) && m.has(b) {
		if m[a] != m[b] {
			return m[a] < m[b]
		}
		a, b = a+1, b+1
	}
	return false
}

// common: how many codes both begin with alike.
func (m model) common(a, b int) int {
	n := 0
	for m.has(a+n) && m.has(b+n) && m[a+n] == m[b+n] {
		n++
	}
	return n
}

// isS: is that place of kind S?
func (m model) isS(place int) bool { return place == len(m)-1 || m.less(place, place+1) }

// isFirst: is it a first S?
func (m model) isFirst(place int) bool { return place > 0 && m.isS(place) && !m.isS(place-1) }

// kinds: which places are of kind S.
func (m model) kinds() []bool {
	var l []bool
	for i := range m {
		l = append(l, m.isS(i))
	}
	return l
}

// firsts: the first Ss.
func (m model) firsts() []int {
	var l []int
	for i := range m {
		if m.isFirst(i) {
			l = append(l, i)
		}
	}
	return l
}

// piece: the codes of the piece at a first S.
func (m model) piece(at int) []int {
	if at == len(m)-1 {
		return []int{0}
	}
	l := []int{m[at]}
	for i := at + 1; ; i++ {
		l = append(l, m[i])
		if m.isFirst(i) {
			return l
		}
	}
}

// order: all places, their suffixes rising.
func (m model) order() []int {
	var l []int
	for i := range m {
		l = append(l, i)
	}
	sort.Slice(l, func(i, k int) bool { return m.less(l[i], l[k]) })
	return l
}

// commons: of each place of its order what its suffix has in common with the one ahead.
func (m model) commons() []int {
	l := []int{0}
	order := m.order()
	for i, place := range order[1:] {
		l = append(l, m.common(order[i], place))
	}
	return l
}

// turned: where each number stands, if these are all of them.
func turned(order []int) ([]int, bool) {
	var l []int
	for number := range order {
		at := slices.Index(order, number)
		if at < 0 {
			return nil, false
		}
		l = append(l, at)
	}
	return l, true
}

// next has no chance in it: the same numbers each time.
func next(seed *uint32, below int) int {
	*seed = *seed*1664525 + 1013904223
	return int(*seed>>8) % below
}

// drawn: a text of n codes, each but the last one as it is told.
func drawn(n int, code func(i int) int) model {
	m := model{}
	for i := range n - 1 {
		m = append(m, code(i))
	}
	return append(m, 0)
}

// fibonacci: n codes, of which many begin alike for long.
func fibonacci(n int) func(i int) int {
	a, b := []int{1}, []int{1, 2}
	for len(b) < n {
		a, b = b, append(slices.Clone(b), a...)
	}
	return func(i int) int { return b[i] }
}

// shapes: what the codes of a text of n may be like.
func shapes(n int) []func(i int) int {
	var seed uint32 = uint32(n)
	return []func(i int) int{
		func(int) int { return 1 },
		func(int) int { return 65535 },
		func(i int) int { return i + 1 },
		func(i int) int { return n - i },
		func(i int) int { return 65535 - i },
		func(i int) int { return 1 + i%2 },
		func(i int) int { return 2 - i%2 },
		func(i int) int { return 1 + i%2*65534 },
		func(i int) int { return 1 + i%3 },
		func(i int) int { return 3 - i%3 },
		func(i int) int { return 1 + min(i%10, 10-i%10) },
		func(i int) int { return 1 + i/3 },
		func(i int) int { return 1 + (n-i)/4 },
		func(i int) int { return 1 + i*i%7 },
		func(i int) int { return 1 + max(0, i-n/2) },
		func(i int) int { return 1 + max(0, n/2-i) },
		func(i int) int { return 1 + (i+1)%max(1, n/2)/max(1, n/2-1) },
		fibonacci(n),
		func(int) int { return 1 + next(&seed, 65535) },
		func(int) int { return 1 + next(&seed, 2) },
		func(int) int { return 1 + next(&seed, 4) },
		func(int) int { return 65535 - next(&seed, 3) },
		func(int) int { return 1 + next(&seed, 1+next(&seed, 30)) },
	}
}

// eachLong: texts of many shapes, of these lengths.
func eachLong(lengths []int, do func(m model)) {
	for _, n := range lengths {
		for _, code := range shapes(n) {
			do(drawn(n, code))
		}
	}
}

// eachList: all lists of n of these numbers.
func eachList(n int, of []int, do func(l []int)) {
	at := make([]int, n)
	for {
		l := make([]int, n)
		for i := range l {
			l[i] = of[at[i]]
		}
		do(l)
		i := 0
		for i < n && at[i] == len(of)-1 {
			at[i] = 0
			i++
		}
		if i == n {
			return
		}
		at[i]++
	}
}

// eachShort: all texts of a few codes.
func eachShort(do func(m model)) {
	for n := range 10 {
		of := []int{1, 2, 3, 4}[:max(2, min(4, 11-n))]
		if n > 6 {
			of = of[:2]
		}
		eachList(n, of, func(l []int) { do(append(l, 0)) })
	}
}

// far is far off whatever a code, a place or a number may be.
var far = []int{math.MinInt, math.MinInt + 1, -1 << 32, -65536, -65535, -2, 65537, 131071, 131072, 1 << 32, 1<<32 + 1, math.MaxInt - 1, math.MaxInt}

// wrongTexts: no texts, each with its error.
func wrongTexts() []model {
	long := drawn(65537, func(int) int { return 1 })
	longAndFar := drawn(70000, func(int) int { return -1 })
	longZeros := make(model, 65537)
	l := []model{
		nil, {}, {1}, {65535}, {0, 0}, {0, 1}, {0, 1, 0}, {1, 0, 0}, {1, 0, 1, 0}, {1, 0, 1}, {5, 6, 7}, {0, 0, 0},
		{-1}, {-1, 0}, {65536, 0}, {65536}, {1, -1, 0}, {1, 65536, 0}, {-1, 0, 1}, {0, -1, 0}, {0, 65536}, {1, 0, -1}, {1, 0, 65536}, {-1, 65536},
		long, longAndFar, longZeros, drawn(65537, func(i int) int { return i }), long[:65536],
	}
	for _, code := range far {
		l = append(l, model{code}, model{code, 0}, model{0, code}, model{1, code, 1, 0})
	}
	return l
}

// wantErrno: that error, and nothing beside it.
func wantErrno(t *testing.T, what string, nothing bool, e, want api.Errno) {
	t.Helper()
	if !nothing || e != want {
		t.Errorf("%s: %d, nothing beside it %v, want %d", what, e, nothing, want)
	}
}

// agree: whatever is asked of a text, it is as found out code by code.
func agree(t *testing.T, m model) {
	t.Helper()
	kinds, e := suffix.Kinds(m)
	if e != api.OK || !slices.Equal(kinds, m.kinds()) {
		t.Fatalf("Kinds(%v) = %v %d, want %v", m, kinds, e, m.kinds())
	}
	firsts, e := suffix.Firsts(m)
	if e != api.OK || !slices.Equal(firsts, m.firsts()) {
		t.Fatalf("Firsts(%v) = %v %d, want %v", m, firsts, e, m.firsts())
	}
	order, e := suffix.Sort(m)
	if e != api.OK || !slices.Equal(order, m.order()) {
		t.Fatalf("Sort(%v) = %v %d, want %v", m, order, e, m.order())
	}
	if !suffix.Right(m, order) {
		t.Fatalf("%v isn't right of %v", order, m)
	}
	commons, e := suffix.Commons(m, order)
	if e != api.OK || !slices.Equal(commons, m.commons()) {
		t.Fatalf("Commons(%v) = %v %d, want %v", m, commons, e, m.commons())
	}
}

// agreePlaces: of these places of a text, and of those that aren't there.
func agreePlaces(t *testing.T, m model, places []int) {
	t.Helper()
	for _, a := range places {
		for _, b := range places {
			agreePair(t, m, a, b)
		}
		agreePiece(t, m, a)
	}
}

// agreePair: of two places of a text.
func agreePair(t *testing.T, m model, a, b int) {
	t.Helper()
	wantLess, wantCommon, wantE := false, 0, api.ErrRange
	if m.has(a) && m.has(b) {
		wantLess, wantCommon, wantE = m.less(a, b), m.common(a, b), api.OK
	}
	if is, e := suffix.Less(m, a, b); is != wantLess || e != wantE {
		t.Fatalf("Less(%v, %d, %d) = %v %d, want %v %d", m, a, b, is, e, wantLess, wantE)
	}
	if n, e := suffix.Common(m, a, b); n != wantCommon || e != wantE {
		t.Fatalf("Common(%v, %d, %d) = %d %d, want %d %d", m, a, b, n, e, wantCommon, wantE)
	}
}

// agreePiece: of one place of a text.
func agreePiece(t *testing.T, m model, at int) {
	t.Helper()
	l, e := suffix.Piece(m, at)
	switch {
	case !m.has(at):
		wantErrno(t, "a piece that isn't there", len(l) == 0, e, api.ErrRange)
	case !m.isFirst(at):
		wantErrno(t, "a piece at no first S", len(l) == 0, e, api.ErrNone)
	case e != api.OK || !slices.Equal(l, m.piece(at)):
		t.Fatalf("Piece(%v, %d) = %v %d, want %v", m, at, l, e, m.piece(at))
	}
}

// places: all of a text of n codes, and some that aren't there.
func places(n int) []int {
	l := slices.Concat(far, []int{-1, n, n + 1})
	for i := range n {
		l = append(l, i)
	}
	return l
}

// spoil: all of the list is this, what it has room for too.
func spoil[T any](l []T, with T) {
	l = l[:cap(l)]
	for i := range l {
		l[i] = with
	}
}
