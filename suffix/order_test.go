package suffix_test

import (
	"slices"
	"testing"

	"incipit/api"
	"incipit/suffix"
)

// P15.2, and P15.1: kinds, first Ss, order and what rows have in common, for all texts of a few codes.
func TestAllShort(t *testing.T) { eachShort(func(m model) { agree(t, m) }) }

// The same of longer ones.
func TestLong(t *testing.T) {
	eachLong([]int{1, 2, 3, 4, 5, 8, 15, 16, 17, 40, 100, 255, 256, 257, 600}, func(m model) { agree(t, m) })
}

// P15.2: the longest texts; those whose order is known, and those where each row is held against the one ahead.
func TestLongest(t *testing.T) {
	n := 65536
	for _, c := range []struct {
		code func(i int) int
		want []int
	}{
		{func(int) int { return 3 }, falling(n)},
		{func(i int) int { return n - 1 - i }, falling(n)},
		{func(i int) int { return i + 1 }, append([]int{n - 1}, rising(n-1)...)},
	} {
		m := drawn(n, c.code)
		if order, e := suffix.Sort(m); e != api.OK || !slices.Equal(order, c.want) || !suffix.Right(m, order) {
			t.Errorf("Sort of %d codes, first %v: %d", n, m[:5], e)
		}
	}
	for _, code := range []func(i int) int{shapes(n)[5], shapes(n)[10], shapes(n)[16], fibonacci(n), shapes(n)[18], shapes(n)[20]} {
		agreeRows(t, drawn(n, code))
	}
}

// agreeRows: each row's suffix is above that of the row ahead, and has as much in common with it as is told.
func agreeRows(t *testing.T, m model) {
	t.Helper()
	order, e := suffix.Sort(m)
	if e != api.OK || len(order) != len(m) || order[0] != len(m)-1 || !suffix.Right(m, order) {
		t.Fatalf("Sort of %d codes: %d rows, %d", len(m), len(order), e)
	}
	commons, e := suffix.Commons(m, order)
	if e != api.OK || len(commons) != len(m) || commons[0] != 0 {
		t.Fatalf("Commons: %d rows, %d", len(commons), e)
	}
	where, e := suffix.Turned(order...)
	if e != api.OK {
		t.Fatalf("Turned: %d", e)
	}
	for row := 1; row < len(order); row++ {
		a, b, n := order[row-1], order[row], commons[row]
		if m[a+n] >= m[b+n] || where[b] != row {
			t.Fatalf("rows %d and %d aren't in order behind %d codes", row-1, row, n)
		}
		// Some are held against each other code by code, as far as they are told to be alike.
		if row%97 == 0 && !slices.Equal(m[a:a+n], m[b:b+n]) {
			t.Fatalf("rows %d and %d aren't alike for %d codes", row-1, row, n)
		}
	}
}

// wrongOrders: some that are not the order of a text, made of the one that is.
func wrongOrders(order []int) [][]int {
	n := len(order)
	l := [][]int{nil, {}, order[:n-1], order[1:], append(slices.Clone(order), n), append(slices.Clone(order), 0), append([]int{0}, order...)}
	for _, i := range []int{0, n / 2, n - 1} {
		for _, number := range append([]int{-1, n, n + 1}, far...) {
			told := slices.Clone(order)
			told[i] = number
			l = append(l, told)
		}
		l = append(l, slices.Insert(slices.Clone(order), i, order[i]), slices.Delete(slices.Clone(order), i, i+1))
		for k := range n {
			swapped := slices.Clone(order)
			swapped[i], swapped[k] = swapped[k], swapped[i]
			twice := slices.Clone(order)
			twice[i] = twice[k]
			l = append(l, swapped, twice)
		}
	}
	return slices.DeleteFunc(l, func(o []int) bool { return slices.Equal(o, order) })
}

// P15.2: of no wrong order Right is true, and Commons tells ErrForm.
func TestWrongOrders(t *testing.T) {
	wrong := func(m model, order []int) {
		t.Helper()
		if suffix.Right(m, order) {
			t.Fatalf("%v is right of %v", order, m)
		}
		commons, e := suffix.Commons(m, order)
		if len(commons) != 0 || e != api.ErrForm {
			t.Fatalf("Commons(%v, %v) = %v %d", m, order, commons, e)
		}
	}
	eachLong([]int{1, 2, 3, 4, 7, 20}, func(m model) {
		for _, order := range wrongOrders(m.order()) {
			wrong(m, order)
		}
	})
	m := drawn(65536, func(i int) int { return 1 + i%3 })
	order, _ := suffix.Sort(m)
	wrong(m, order[:65535])
	wrong(m, append(slices.Clone(order), 65536))
	for _, i := range []int{0, 1, 2, 21845, 21846, 40000, 65534} {
		order[i], order[i+1] = order[i+1], order[i]
		wrong(m, order)
		order[i], order[i+1] = order[i+1], order[i]
	}
	if !suffix.Right(m, order) {
		t.Error("the right order isn't right")
	}
}

// P15.2: Right and Commons of all orders of all numbers, of texts of a few codes.
func TestAllOrders(t *testing.T) {
	for n := 1; n <= 4; n++ {
		eachList(n-1, []int{1, 2, 3}, func(l []int) {
			m := model(append(l, 0))
			want := m.order()
			eachList(n, rising(n), func(order []int) {
				is := slices.Equal(order, want)
				if suffix.Right(m, order) != is {
					t.Fatalf("Right(%v, %v) isn't %v", m, order, is)
				}
				commons, e := suffix.Commons(m, order)
				if is != (e == api.OK) || !is && (e != api.ErrForm || len(commons) > 0) || is && !slices.Equal(commons, m.commons()) {
					t.Fatalf("Commons(%v, %v) = %v %d", m, order, commons, e)
				}
			})
		})
	}
}

// P15.2, P15.3: Turned of all lists of few numbers; turned twice it is itself.
func TestTurned(t *testing.T) {
	if l, e := suffix.Turned(); len(l) != 0 || e != api.OK {
		t.Errorf("Turned() = %v %d", l, e)
	}
	for n := range 7 {
		eachList(n, append([]int{-1, n}, rising(n)...), func(order []int) {
			l, e := suffix.Turned(order...)
			want, is := turned(order)
			if !is {
				wantErrno(t, "Turned", len(l) == 0, e, api.ErrForm)
				return
			}
			if e != api.OK || !slices.Equal(l, want) {
				t.Fatalf("Turned(%v) = %v %d, want %v", order, l, e, want)
			}
			if again, e := suffix.Turned(l...); e != api.OK || !slices.Equal(again, order) {
				t.Fatalf("Turned(%v) = %v %d, want %v", l, again, e, order)
			}
		})
	}
	for _, number := range far {
		for _, order := range [][]int{{number}, {0, number}, {number, 0}, {number, number}, {1, 0, number}} {
			l, e := suffix.Turned(order...)
			wantErrno(t, "Turned of what is far off", len(l) == 0, e, api.ErrForm)
		}
	}
}

// P15.2: numbers of Turned have no greatest count, as no text is told.
func TestTurnedOfMany(t *testing.T) {
	for _, n := range []int{1, 2, 65535, 65536, 65537, 100000} {
		if l, e := suffix.Turned(falling(n)...); e != api.OK || !slices.Equal(l, falling(n)) {
			t.Errorf("Turned of %d that fall: %d", n, e)
		}
		order := append(rising(n)[1:], 0)
		want := append([]int{n - 1}, rising(n-1)...)
		if l, e := suffix.Turned(order...); e != api.OK || !slices.Equal(l, want) {
			t.Errorf("Turned of %d: %d", n, e)
		}
		order[n-1] = n
		if l, e := suffix.Turned(order...); l != nil || e != api.ErrForm {
			t.Errorf("Turned of %d, one of them wrong: %d", n, e)
		}
	}
}

// P15.3: the last place is the first one in order; an order turned twice is itself.
func TestWhatFollows(t *testing.T) {
	eachLong([]int{1, 2, 3, 10, 300, 5000}, func(m model) {
		order, e := suffix.Sort(m)
		if e != api.OK || order[0] != len(m)-1 {
			t.Fatalf("the first row of %d codes is %d, %d", len(m), order[0], e)
		}
		where, e := suffix.Turned(order...)
		again, e2 := suffix.Turned(where...)
		if e != api.OK || e2 != api.OK || !slices.Equal(again, order) || where[len(m)-1] != 0 {
			t.Fatalf("turned twice it isn't itself: %d %d", e, e2)
		}
		// Less, Common and the order tell the same.
		commons, _ := suffix.Commons(m, order)
		for row := 1; row < len(order); row += 1 + len(order)/20 {
			is, e := suffix.Less(m, order[row-1], order[row])
			not, e2 := suffix.Less(m, order[row], order[row-1])
			n, e3 := suffix.Common(m, order[row], order[row-1])
			if !is || not || e != api.OK || e2 != api.OK || e3 != api.OK || n != commons[row] {
				t.Fatalf("row %d: %v %v, %d in common, want %d", row, is, not, n, commons[row])
			}
		}
	})
}

// P15.1: the pieces, one behind the other, are the text from the first one on; each begins where the one ahead ends.
func TestPiecesTellTheText(t *testing.T) {
	eachLong([]int{2, 3, 10, 100, 300}, func(m model) {
		firsts, _ := suffix.Firsts(m)
		var told []int
		for _, at := range firsts {
			l, e := suffix.Piece(m, at)
			if e != api.OK || len(l) == 0 {
				t.Fatalf("Piece(%v, %d) = %v %d", m, at, l, e)
			}
			told = append(told, l[:max(1, len(l)-1)]...)
		}
		if !slices.Equal(told, m[firsts[0]:]) {
			t.Fatalf("the pieces tell %v of %v", told, m)
		}
	})
}
