package alloc_test

import (
	"math"
	"slices"
	"testing"

	"incipit/alloc"
	"incipit/api"
)

// The chapter's example.
func TestExample(t *testing.T) {
	a, e := alloc.New(6, 2, 3)
	if e != api.OK {
		t.Fatal(e)
	}
	if l, e := a.Take(1); !slices.Equal(l, []int{4}) || e != api.OK {
		t.Errorf("Take(1) = %v %d", l, e)
	}
	if e := a.Give(2); e != api.OK || a.Kind(2) != alloc.Pending {
		t.Errorf("Give(2): %d, and 2 is of kind %d", e, a.Kind(2))
	}
	if l := a.Commit(); !slices.Equal(l, []int{2}) || a.Kind(2) != alloc.Free {
		t.Errorf("Commit() = %v, and 2 is of kind %d", l, a.Kind(2))
	}
	agree(t, "behind the example", a, modelOf(6).with(committed, 3, 4))
}

// The kinds' numbers.
func TestKinds(t *testing.T) {
	l := []int{alloc.Reserved, alloc.Free, alloc.Committed, alloc.Shadow, alloc.Pending, alloc.None}
	if !slices.Equal(l, []int{0, 1, 2, 3, 4, 5}) {
		t.Errorf("the kinds are %v", l)
	}
}

func wantNew(t *testing.T, pages int, l ...int) {
	t.Helper()
	m, want := newModel(pages, l...)
	a, e := alloc.New(pages, l...)
	if e != want {
		t.Fatalf("New(%d, %v): %d, want %d", pages, l, e, want)
	}
	if e != api.OK {
		if a != nil {
			t.Fatalf("New(%d, %v): %d, and an allocator", pages, l, e)
		}
		return
	}
	agree(t, "New", a, m)
}

// P7.1: there is an allocator of each number of pages from 2 to 2048, and of no other.
func TestNewOfPages(t *testing.T) {
	for pages := -3; pages <= 2052; pages++ {
		a, e := alloc.New(pages)
		switch {
		case pages < 2 || pages > 2048:
			if a != nil || e != api.ErrArg {
				t.Fatalf("New(%d) = %v %d", pages, a, e)
			}
		case e != api.OK || a.Pages() != pages || a.Free() != pages-2:
			t.Fatalf("New(%d): %d, %d pages, %d free", pages, e, a.Pages(), a.Free())
		}
	}
	for _, pages := range []int{-1, 0, 1, 2, 3, 2047, 2048, 2049} {
		wantNew(t, pages)
		wantNew(t, pages, 2)
	}
	// ErrArg is named ahead of what is wrong with the list.
	for _, pages := range []int{math.MinInt, -2048, -1, 0, 1, 2049, 4096, 1 << 32, math.MaxInt} {
		for _, l := range [][]int{nil, {}, {0}, {-1}, {2}, {2, 2}, {pages}, {2, 3, 2, -5}} {
			if a, e := alloc.New(pages, l...); a != nil || e != api.ErrArg {
				t.Errorf("New(%d, %v) = %v %d", pages, l, a, e)
			}
		}
	}
}

// P7.1: which pages may be committed, one alone, and ahead of and behind another.
func TestNewOfCommitted(t *testing.T) {
	for _, pages := range []int{2, 3, 4, 5, 8, 63, 64, 65, 66, 2047, 2048} {
		about := append([]int{0, 1, 2, 3, 4, 62, 63, 64, 65, 2046, 2047, pages / 2, pages - 2, pages - 1, pages, pages + 1, pages + 64}, beyond...)
		for _, page := range about {
			wantNew(t, pages, page)
			wantNew(t, pages, page, page)
			wantNew(t, pages, page, 2)
			wantNew(t, pages, 2, page)
			wantNew(t, pages, page, pages-1)
			wantNew(t, pages, pages-1, page)
		}
		wantNew(t, pages, count(2, pages-2)...)
		wantNew(t, pages, count(1, pages-1)...)
		wantNew(t, pages, count(2, pages-1)...)
	}
}

// P7.1: a page that is out of range is told ahead of one that is told twice, in whichever order they stand.
func TestNewsFirstError(t *testing.T) {
	for _, l := range [][]int{
		{3, 3, 1}, {1, 3, 3}, {3, 1, 3}, {3, 3, 8}, {8, 3, 3}, {3, 3, -1}, {-1, 3, 3}, {8, 8}, {0, 0}, {1, 1}, {-1, -1},
		{3, 3, math.MaxInt}, {math.MinInt, 3, 3}, {2, 3, 4, 5, 6, 7, 7, 0},
	} {
		if a, e := alloc.New(8, l...); a != nil || e != api.ErrRange {
			t.Errorf("New(8, %v) = %v %d", l, a, e)
		}
	}
	for _, l := range [][]int{{3, 3}, {2, 2}, {7, 7}, {2, 3, 2}, {7, 6, 5, 4, 3, 2, 7}, {3, 3, 3, 3}, {4, 2, 2, 4}} {
		if a, e := alloc.New(8, l...); a != nil || e != api.ErrTwice {
			t.Errorf("New(8, %v) = %v %d", l, a, e)
		}
	}
}

// P7.1: all lists of up to three numbers.
func TestNewOfEveryList(t *testing.T) {
	for pages := 2; pages <= 6; pages++ {
		lists(3, count(-1, pages+3), func(l []int) { wantNew(t, pages, l...) })
	}
}

func wantTake(t *testing.T, m model, n int) {
	t.Helper()
	a := made(t, m)
	m = slices.Clone(m)
	want, wantE := m.take(n)
	if l, e := a.Take(n); !slices.Equal(l, want) || e != wantE {
		t.Fatalf("Take(%d) = %v %d, want %v %d", n, l, e, want, wantE)
	}
	agree(t, "behind Take", a, m)
}

// P7.1: the lowest free ones are taken, rising, or none.
func TestTake(t *testing.T) {
	all := func(m model) {
		n := len(m.all(free))
		for _, n := range []int{math.MinInt, -2, -1, 0, 1, 2, n / 2, n - 1, n, n + 1, n + 2, len(m), 2048, 1 << 32, math.MaxInt} {
			wantTake(t, m, n)
		}
	}
	few(all)
	great(all)
}

// P7.1: with none free, none and only none can be taken.
func TestTakeOfNoneFree(t *testing.T) {
	for _, m := range []model{
		modelOf(2), modelOf(3).with(committed, 2), modelOf(3).with(shadow, 2), modelOf(3).with(pending, 2),
		modelOf(6).with(committed, 2, 5).with(shadow, 3).with(pending, 4),
	} {
		a := made(t, m)
		if l, e := a.Take(1); len(l) != 0 || e != api.ErrFull {
			t.Errorf("Take(1) = %v %d", l, e)
		}
		if l, e := a.Take(0); len(l) != 0 || e != api.OK {
			t.Errorf("Take(0) = %v %d", l, e)
		}
		if l, e := a.Take(-1); len(l) != 0 || e != api.ErrArg {
			t.Errorf("Take(-1) = %v %d", l, e)
		}
		agree(t, "behind Take", a, m)
	}
}

// P7.1, P7.2: pages that were given and committed are taken again, the lowest ones first.
func TestTakeOfGiven(t *testing.T) {
	a, _ := alloc.New(10, 2, 3, 5, 8)
	take := func(n int, want ...int) {
		t.Helper()
		if l, e := a.Take(n); !slices.Equal(l, want) || e != api.OK {
			t.Errorf("Take(%d) = %v %d, want %v", n, l, e, want)
		}
	}
	take(2, 4, 6)
	a.Give(8, 3)
	take(1, 7)
	if l := a.Commit(); !slices.Equal(l, []int{3, 8}) {
		t.Errorf("Commit() = %v", l)
	}
	take(2, 3, 8)
	a.Give(3) // it is a shadow one: free at once
	take(2, 3, 9)
	agree(t, "behind it", a, modelOf(10).with(committed, 2, 4, 5, 6, 7).with(shadow, 3, 8, 9))
}

// call is one that is told pages.
type call struct {
	name string
	real func(a *alloc.Alloc, l ...int) api.Errno
	slow func(m model, l ...int) api.Errno
}

func calls() []call {
	return []call{
		{"Give", func(a *alloc.Alloc, l ...int) api.Errno { return a.Give(l...) }, model.give},
		{"Adopt", func(a *alloc.Alloc, l ...int) api.Errno { return a.Adopt(l...) }, model.adopt},
	}
}

// wantCall: the answer, and what is behind it, is the model's.
func wantCall(t *testing.T, c call, m model, l ...int) {
	t.Helper()
	a, x := made(t, m), slices.Clone(m)
	want := c.slow(x, l...)
	if e := c.real(a, l...); e != want {
		t.Fatalf("%s(%v) of %v: %d, want %d", c.name, l, m, e, want)
	}
	if want != api.OK && !slices.Equal(x, m) {
		t.Fatalf("the model is wrong: %s(%v) of %v", c.name, l, m)
	}
	agree(t, "behind "+c.name, a, x)
}

// P7.1, P7.2: all lists of up to three numbers, on all allocators of up to five pages.
func TestGiveAndAdoptOfEveryList(t *testing.T) {
	for _, c := range calls() {
		for pages := 2; pages <= 5; pages++ {
			each(pages, func(m model) {
				lists(3, count(-1, pages+3), func(l []int) { wantCall(t, c, m, l...) })
			})
		}
	}
}

// P7.1, P7.2: one page of each kind, and out of range, ahead of and behind others, which stay as they were.
func TestGiveAndAdoptOfManyPages(t *testing.T) {
	for _, c := range calls() {
		great(func(m model) {
			last := len(m) - 1
			wantCall(t, c, m)
			for _, kinds := range [][]int{{free}, {committed}, {shadow}, {pending}, {committed, shadow}, {free, pending}, {free, committed, shadow, pending}} {
				l := m.all(kinds...)
				wantCall(t, c, m, l...)
				slices.Reverse(l)
				wantCall(t, c, m, l...)
				for _, page := range []int{1, 2, last, last + 1} {
					wantCall(t, c, m, append(slices.Clone(l), page)...)
					wantCall(t, c, m, append([]int{page}, l...)...)
				}
			}
		})
	}
}

// P7.1: what Adopt is told, by name.
func TestAdopt(t *testing.T) {
	m := modelOf(12).with(committed, 2, 3).with(shadow, 5, 6).with(pending, 8, 9)
	for i, y := range []struct {
		l    []int
		want api.Errno
	}{
		{nil, api.OK},
		{[]int{4}, api.OK}, {[]int{4, 7, 10, 11}, api.OK}, {[]int{11, 4, 10, 7}, api.OK},
		{[]int{2}, api.ErrTwice}, {[]int{5}, api.ErrTwice}, {[]int{8}, api.ErrTwice}, {[]int{4, 4}, api.ErrTwice},
		{[]int{4, 7, 2}, api.ErrTwice}, {[]int{5, 4, 7}, api.ErrTwice}, {[]int{4, 8, 7}, api.ErrTwice}, {[]int{4, 7, 10, 4}, api.ErrTwice},
		{[]int{0}, api.ErrRange}, {[]int{1}, api.ErrRange}, {[]int{-1}, api.ErrRange}, {[]int{12}, api.ErrRange}, {[]int{1000}, api.ErrRange},
		{[]int{4, 0}, api.ErrRange}, {[]int{12, 4}, api.ErrRange},
		{[]int{2, 12}, api.ErrRange}, {[]int{12, 2}, api.ErrRange}, {[]int{4, 4, 1}, api.ErrRange}, {[]int{1, 4, 4}, api.ErrRange},
	} {
		a := made(t, m)
		if e := a.Adopt(y.l...); e != y.want {
			t.Errorf("%d: Adopt(%v): %d, want %d", i, y.l, e, y.want)
		}
		if y.want != api.OK {
			agree(t, "behind a wrong Adopt", a, m)
			continue
		}
		agree(t, "behind Adopt", a, m.with(shadow, y.l...))
	}
}

// P7.2: what Give is told, by name.
func TestGive(t *testing.T) {
	m := modelOf(12).with(committed, 2, 3).with(shadow, 5, 6).with(pending, 8, 9)
	for i, y := range []struct {
		l             []int
		want          api.Errno
		free, pending []int
	}{
		{l: nil},
		{l: []int{5}, free: []int{5}},
		{l: []int{2}, pending: []int{2}},
		{l: []int{3, 6, 2, 5}, free: []int{5, 6}, pending: []int{2, 3}},
		{l: []int{4}, want: api.ErrState}, {l: []int{8}, want: api.ErrState}, {l: []int{5, 5}, want: api.ErrState}, {l: []int{2, 2}, want: api.ErrState},
		{l: []int{2, 5, 4}, want: api.ErrState}, {l: []int{9, 2, 5}, want: api.ErrState}, {l: []int{2, 5, 2}, want: api.ErrState},
		{l: []int{0}, want: api.ErrRange}, {l: []int{1}, want: api.ErrRange}, {l: []int{-1}, want: api.ErrRange}, {l: []int{12}, want: api.ErrRange}, {l: []int{1 << 32}, want: api.ErrRange},
		{l: []int{2, 5, 0}, want: api.ErrRange}, {l: []int{12, 2, 5}, want: api.ErrRange},
		{l: []int{4, 12}, want: api.ErrRange}, {l: []int{12, 4}, want: api.ErrRange}, {l: []int{2, 2, 1}, want: api.ErrRange}, {l: []int{1, 2, 2}, want: api.ErrRange},
	} {
		a := made(t, m)
		if e := a.Give(y.l...); e != y.want {
			t.Errorf("%d: Give(%v): %d, want %d", i, y.l, e, y.want)
		}
		agree(t, "behind Give", a, m.with(free, y.free...).with(pending, y.pending...))
	}
}

// P7.2: on all allocators of few pages, and on great ones; the second one behind the first finds nothing to do.
func TestCommitAndAbort(t *testing.T) {
	all := func(m model) {
		for _, c := range []struct {
			name string
			real func(a *alloc.Alloc) []int
			slow func(m model) []int
		}{
			{"Commit", (*alloc.Alloc).Commit, model.commit},
			{"Abort", (*alloc.Alloc).Abort, model.abort},
		} {
			a, x := made(t, m), slices.Clone(m)
			want := c.slow(x)
			if l := c.real(a); !slices.Equal(l, want) {
				t.Fatalf("%s() of %v = %v, want %v", c.name, m, l, want)
			}
			agree(t, "behind "+c.name, a, x)
			if l := a.Commit(); len(l) != 0 {
				t.Fatalf("%s(), then Commit() = %v", c.name, l)
			}
			if l := a.Abort(); len(l) != 0 {
				t.Fatalf("%s(), then Abort() = %v", c.name, l)
			}
			agree(t, "behind "+c.name+" and no more to do", a, x)
		}
	}
	few(all)
	great(all)
}

// P7.2: what each of them answers, by name.
func TestCommitAndAbortByName(t *testing.T) {
	m := modelOf(9).with(committed, 7)
	for i, y := range []struct {
		m             model
		commit, abort []int
	}{
		{m, nil, nil},
		{m.with(shadow, 6, 3), nil, []int{3, 6}},
		{m.with(pending, 5, 2), []int{2, 5}, nil},
		{m.with(pending, 5, 2).with(shadow, 6, 3), []int{2, 5}, []int{3, 6}},
	} {
		a, b := made(t, y.m), made(t, y.m)
		if l := a.Commit(); !slices.Equal(l, y.commit) {
			t.Errorf("%d: Commit() = %v, want %v", i, l, y.commit)
		}
		agree(t, "behind Commit", a, m.with(committed, y.abort...))
		if l := b.Abort(); !slices.Equal(l, y.abort) {
			t.Errorf("%d: Abort() = %v, want %v", i, l, y.abort)
		}
		agree(t, "behind Abort", b, m.with(committed, y.commit...))
	}
}

// P7.3: all pairs of allocators of few pages, and of others of more pages, fewer, or none.
func TestSame(t *testing.T) {
	var l []model
	for pages := 2; pages <= 5; pages++ {
		each(pages, func(m model) { l = append(l, m) })
	}
	for _, m := range l {
		a := made(t, m)
		for _, n := range l {
			if want := slices.Equal(m, n); alloc.Same(a, made(t, n)) != want {
				t.Fatalf("Same of %v and %v isn't %v", m, n, want)
			}
		}
		if alloc.Same(a, nil) || alloc.Same(nil, a) || !alloc.Same(a, a) {
			t.Fatalf("Same of %v and nil, or itself", m)
		}
		agree(t, "behind Same", a, m)
	}
	if !alloc.Same(nil, nil) {
		t.Error("Same(nil, nil) is false")
	}
}

// P7.3: one set alone that differs, and the number of pages alone.
func TestSameButForOne(t *testing.T) {
	great(func(m model) {
		last := len(m) - 1
		a := made(t, m)
		for _, page := range []int{2, 3, len(m) / 2, last - 1, last} {
			for _, kind := range []int{free, committed, shadow, pending} {
				b := made(t, m.with(kind, page))
				if want := m[page] == kind; alloc.Same(a, b) != want || alloc.Same(b, a) != want {
					t.Fatalf("of %d: with page %d of kind %d, not %d: Same isn't %v", len(m), page, kind, m[page], want)
				}
			}
		}
		if len(m) < 2048 {
			b := made(t, append(slices.Clone(m), free))
			if alloc.Same(a, b) || alloc.Same(b, a) {
				t.Fatalf("%d and %d pages are the same", len(m), len(m)+1)
			}
		}
	})
}

// P7.3: however it was reached, it is the same.
func TestSameByOtherWays(t *testing.T) {
	a, _ := alloc.New(8, 5, 2, 3)
	b, _ := alloc.New(8)
	b.Take(4)
	b.Give(4)
	b.Commit()
	if !alloc.Same(a, b) {
		t.Error("committed by New or by Commit: not the same")
	}
	a.Adopt(6, 4)
	b.Take(2)
	if !alloc.Same(a, b) {
		t.Error("shadow by Adopt or by Take: not the same")
	}
	a.Give(5, 6)
	b.Give(6)
	b.Give(5)
	if !alloc.Same(a, b) {
		t.Error("given at once or one by one: not the same")
	}
}

// P7.4: every call on a nil allocator.
func TestNil(t *testing.T) {
	var a *alloc.Alloc
	for _, n := range []int{math.MinInt, -1, 0, 1, 2, math.MaxInt} {
		if l, e := a.Take(n); len(l) != 0 || e != api.ErrState {
			t.Errorf("Take(%d) = %v %d", n, l, e)
		}
		if a.Kind(n) != alloc.None {
			t.Errorf("Kind(%d) = %d", n, a.Kind(n))
		}
		for _, c := range calls() {
			for _, l := range [][]int{nil, {n}, {n, n}, {2, n}} {
				if e := c.real(a, l...); e != api.ErrState {
					t.Errorf("%s(%v): %d", c.name, l, e)
				}
			}
		}
	}
	if len(a.Commit()) != 0 || len(a.Abort()) != 0 || a.Free() != 0 || a.Pages() != 0 {
		t.Error("it has something")
	}
	if c, s, p := a.Sets(); c != nil || s != nil || p != nil {
		t.Errorf("Sets() = %v %v %v", c, s, p)
	}
}

// P1: the zero Alloc has no pages, and nothing panics.
func TestZero(t *testing.T) {
	a := &alloc.Alloc{}
	for _, page := range []int{math.MinInt, -1, 0, 1, 2, 2047, math.MaxInt} {
		if a.Kind(page) != alloc.None || a.Give(page) != api.ErrRange || a.Adopt(page) != api.ErrRange {
			t.Errorf("it has page %d", page)
		}
	}
	if l, e := a.Take(1); len(l) != 0 || e != api.ErrFull {
		t.Errorf("Take(1) = %v %d", l, e)
	}
	if l, e := a.Take(0); len(l) != 0 || e != api.OK {
		t.Errorf("Take(0) = %v %d", l, e)
	}
	if a.Give() != api.OK || a.Adopt() != api.OK {
		t.Error("there is nothing to give or to adopt, and an error")
	}
	if len(a.Commit()) != 0 || len(a.Abort()) != 0 || a.Free() != 0 || a.Pages() != 0 {
		t.Error("it has something")
	}
	if c, s, p := a.Sets(); c.Count() != 0 || s.Count() != 0 || p.Count() != 0 {
		t.Error("its sets have something")
	}
	if !alloc.Same(a, &alloc.Alloc{}) || alloc.Same(a, nil) || alloc.Same(a, made(t, modelOf(2))) {
		t.Error("Same of it")
	}
}
