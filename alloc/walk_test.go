package alloc_test

import (
	"slices"
	"testing"

	"incipit/alloc"
	"incipit/api"
	"incipit/bitmap"
)

// walk is an allocator and its model, which go the same way.
type walk struct {
	t    *testing.T
	dice dice
	a    *alloc.Alloc
	m    model
	kept map[int]struct{} // committed, and no commit has given it since
	told []int            // all answers
}

func begun(t *testing.T, seed, pages int) *walk {
	w := &walk{t: t, dice: dice(seed), m: modelOf(pages), kept: map[int]struct{}{}}
	for page := 2; page < pages; page++ {
		if w.dice.below(3) == 0 {
			w.m[page] = committed
			w.kept[page] = struct{}{}
		}
	}
	w.a = made(t, w.m)
	return w
}

// list: some pages, most of them of the kinds, few told twice or out of range.
func (w *walk) list(kinds ...int) []int {
	var l []int
	all := w.m.all(kinds...)
	for range w.dice.below(5) {
		switch {
		case w.dice.below(12) == 0:
			l = append(l, w.dice.below(len(w.m)+4)-2)
		case len(all) > 0:
			i := w.dice.below(len(all))
			l = append(l, all[i])
			if w.dice.below(12) != 0 {
				all = slices.Delete(all, i, i+1)
			}
		}
	}
	return l
}

// took: none of these is one that no commit gave.
func (w *walk) took(l []int) {
	w.t.Helper()
	for _, page := range l {
		if _, ok := w.kept[page]; ok {
			w.t.Fatalf("%d was taken, and it is committed", page)
		}
	}
}

func (w *walk) step() {
	w.t.Helper()
	var l, want []int
	var e, wantE api.Errno
	switch w.dice.below(10) {
	case 0, 1, 2:
		n := w.dice.below(8) - 1
		l, e = w.a.Take(n)
		want, wantE = w.m.take(n)
		w.took(l)
	case 3, 4, 5:
		pages := w.list(committed, shadow)
		e, wantE = w.a.Give(pages...), w.m.give(pages...)
	case 6, 7:
		pages := w.list(free)
		e, wantE = w.a.Adopt(pages...), w.m.adopt(pages...)
		if e == api.OK {
			w.took(pages)
		}
	case 8:
		l, want = w.a.Commit(), w.m.commit()
		clear(w.kept)
		c, _, _ := w.a.Sets()
		for _, page := range c.All() {
			w.kept[page] = struct{}{}
		}
	case 9:
		l, want = w.a.Abort(), w.m.abort()
	}
	if !slices.Equal(l, want) || e != wantE {
		w.t.Fatalf("%v %d was answered, want %v %d", l, e, want, wantE)
	}
	w.told = append(append(w.told, l...), int(e), w.a.Free())
}

// P7.4: after any calls it is as the model; free, committed and shadow pages are all but the first two, and what is committed isn't taken before a commit gives it.
func TestWalks(t *testing.T) {
	for _, pages := range []int{2, 3, 4, 6, 16, 63, 64, 65, 66, 130, 2048} {
		for seed := range 4 {
			w := begun(t, seed, pages)
			for range 300 {
				w.step()
				agree(t, "behind a step", w.a, w.m)
			}
		}
	}
}

// P2: the same calls have the same answers.
func TestTheSameAgain(t *testing.T) {
	run := func() *walk {
		w := begun(t, 7, 100)
		for range 500 {
			w.step()
		}
		return w
	}
	a, b := run(), run()
	if !slices.Equal(a.told, b.told) || !alloc.Same(a.a, b.a) {
		t.Error("two runs differ")
	}
}

// turned: each number of the set is dropped, each other one added.
func turned(s *bitmap.Set) {
	for no := range s.Size() {
		if s.Drop(no) == 0 {
			s.Add(no)
		}
	}
}

// P7.3: what is done to the sets isn't seen in the allocator, nor in what it answers next; nor is what is done to it seen in them.
func TestSetsAreApart(t *testing.T) {
	all := func(m model) {
		a := made(t, m)
		c, s, p := a.Sets()
		turned(c)
		agree(t, "behind another committed", a, m)
		turned(s)
		agree(t, "behind another shadow", a, m)
		turned(p)
		agree(t, "behind another pending", a, m)
		c, s, p = a.Sets()
		x := slices.Clone(m)
		a.Adopt(m.all(free)...)
		a.Give(m.all(committed)...)
		a.Commit()
		x.adopt(m.all(free)...)
		x.give(m.all(committed)...)
		x.commit()
		agree(t, "behind other calls", a, x)
		wantSet(t, "committed, told ahead", c, m, committed, pending)
		wantSet(t, "shadow, told ahead", s, m, shadow)
		wantSet(t, "pending, told ahead", p, m, pending)
	}
	few(all)
	great(all)
}

// spoil: all of the list is this, what it has room for too.
func spoil(l []int, with int) {
	l = l[:cap(l)]
	for i := range l {
		l[i] = with
	}
}

// The rule of answers: a list that is answered is the caller's own.
func TestListsAreApart(t *testing.T) {
	m := modelOf(9).with(committed, 2).with(pending, 3, 4)
	a := made(t, m)
	l, _ := a.Take(2)
	spoil(l, 7)
	agree(t, "behind Take", a, m.with(shadow, 5, 6))
	spoil(a.Commit(), 7)
	agree(t, "behind Commit", a, modelOf(9).with(committed, 2, 5, 6))
	a.Take(2)
	spoil(a.Abort(), 7)
	agree(t, "behind Abort", a, modelOf(9).with(committed, 2, 5, 6))
}

// The rule of what is handed in: lists are neither kept nor changed, nor what stands behind them.
func TestWhatIsHandedInIsApart(t *testing.T) {
	room := []int{6, 3, 4, 7, 7}
	was := slices.Clone(room)
	l := room[:3]
	a, _ := alloc.New(9, l...)
	b, _ := alloc.New(9)
	b.Adopt(l...)
	c, _ := alloc.New(9, l...)
	c.Give(l...)
	if !slices.Equal(room, was) {
		t.Errorf("the list is %v, want %v", room, was)
	}
	spoil(l, 5)
	agree(t, "New", a, modelOf(9).with(committed, 3, 4, 6))
	agree(t, "Adopt", b, modelOf(9).with(shadow, 3, 4, 6))
	agree(t, "Give", c, modelOf(9).with(pending, 3, 4, 6))
}

// Two allocators share nothing.
func TestAllocatorsAreApart(t *testing.T) {
	a, _ := alloc.New(70, 2, 65)
	b, _ := alloc.New(70, 2, 65)
	a.Take(3)
	a.Give(65)
	agree(t, "the other one", b, modelOf(70).with(committed, 2, 65))
	a.Commit()
	agree(t, "the other one", b, modelOf(70).with(committed, 2, 65))
}
