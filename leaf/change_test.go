package leaf_test

import (
	"slices"
	"testing"

	"incipit/api"
	"incipit/leaf"
)

// P9.2: by name: below all, each key, between each two, above all.
func TestFind(t *testing.T) {
	l := list{x(1, 5, 9), x(1, 7, 4), x(3, 0, 2)}
	for _, y := range []struct {
		key          leaf.Key
		place, child int
		there        bool
	}{
		{k(0, 65535), 0, 0, false}, {k(1, 4), 0, 0, false}, {k(1, 5), 0, 0, true},
		{k(1, 6), 1, 0, false}, {k(1, 7), 1, 1, true},
		{k(1, 8), 2, 1, false}, {k(2, 0), 2, 1, false}, {k(2, 65535), 2, 1, false}, {k(3, 0), 2, 2, true},
		{k(3, 1), 3, 2, false}, {k(15, 65535), 3, 2, false},
		{k(-1, 7), 0, 0, false}, {k(1, -1), 0, 0, false}, {k(3, -1), 2, 1, false}, {k(1, 65536), 2, 1, false}, {k(16, 0), 3, 2, false},
	} {
		for _, n := range both(l) {
			if i, is := n.Find(y.key); i != y.place || is != y.there {
				t.Errorf("Find(%v) = %d %v, want %d %v", y.key, i, is, y.place, y.there)
			}
			child, want := y.child, api.OK
			if n.Leaf {
				child, want = 0, api.ErrState
			}
			if i, e := n.Child(y.key); i != child || e != want {
				t.Errorf("leaf %v: Child(%v) = %d %d, want %d %d", n.Leaf, y.key, i, e, child, want)
			}
		}
	}
}

// P9.2: without entries: Find tells 0, Child ErrForm, and of a leaf ErrState ahead of that.
func TestFindInNone(t *testing.T) {
	for _, l := range []list{nil, {}} {
		for _, n := range both(l) {
			want := api.ErrForm
			if n.Leaf {
				want = api.ErrState
			}
			for _, key := range keys() {
				if i, is := n.Find(key); i != 0 || is {
					t.Errorf("Find(%v) = %d %v", key, i, is)
				}
				if i, e := n.Child(key); i != 0 || e != want {
					t.Errorf("leaf %v: Child(%v) = %d %d, want %d", n.Leaf, key, i, e, want)
				}
			}
		}
	}
}

// P9.2: of all right nodes, and of such as are wrong in their pages or their count alone, or whose keys are none.
func TestFindOfAll(t *testing.T) {
	var many list
	for i := range 1000 {
		many = append(many, x(i/7, 3*i, i))
	}
	lists := append(rights(), rising(17), many, list{x(-5, 0, 0), x(0, -1, -1), x(0, 0, 1), x(15, 65536, 9), x(16, -1, 2048)}, list{x(1, 5, 0)})
	for _, l := range lists {
		for _, n := range both(l) {
			for _, key := range slices.Concat(keys(), around(l)) {
				agreeFind(t, n, key)
			}
		}
	}
}

// P1: of keys that don't rise something is told, too, the same each time.
func TestFindOfKeysThatDoNotRise(t *testing.T) {
	falling := rising(17)
	slices.Reverse(falling)
	for _, l := range []list{falling, slices.Repeat(list{x(1, 5, 9)}, 40), {x(1, 5, 9), x(0, 0, 2), x(9, 9, 9), x(1, 5, 9)}} {
		for _, n := range both(l) {
			for _, key := range slices.Concat(keys(), around(l)) {
				i, is := n.Find(key)
				c, e := n.Child(key)
				if i < 0 || i > len(l) || c < 0 || c >= len(l) || is && l[i].Key != key {
					t.Errorf("%v: Find(%v) = %d %v, Child = %d", l, key, i, is, c)
				}
				if j, still := n.Find(key); j != i || still != is {
					t.Errorf("%v: Find(%v) = %d %v, then %d %v", l, key, i, is, j, still)
				}
				if d, f := n.Child(key); d != c || f != e {
					t.Errorf("%v: Child(%v) = %d %d, then %d %d", l, key, c, e, d, f)
				}
			}
		}
	}
}

// P9.2: a new key at each place, and each key that is there, whose page is the new one.
func TestWith(t *testing.T) {
	for count := range 17 {
		all := rising(17)
		for place := 0; place <= count; place++ {
			// All but one: that one is new at its place.
			l := slices.Concat(all[:place], all[place+1:count+1])
			if len(l) == 16 {
				continue
			}
			n, e := leaf.Node{Leaf: true, L: l}.With(all[place])
			if !slowSame(n, leaf.Node{Leaf: true, L: all[:count+1]}) || e != api.OK {
				t.Errorf("%v with %v: %v %d", l, all[place], n, e)
			}
		}
		for place := range count {
			l := rising(count)
			changed := l[place]
			changed.Page = 1234
			for _, n := range both(l) {
				want := leaf.Node{Leaf: n.Leaf, L: slices.Concat(l[:place], list{changed}, l[place+1:])}
				if m, e := n.With(changed); !slowSame(m, want) || e != api.OK {
					t.Errorf("%v with %v: %v %d", n, changed, m, e)
				}
			}
		}
	}
}

// P9.2: 15 and 16 entries.
func TestWithOfFull(t *testing.T) {
	all := rising(17)
	for place := range all {
		l := slices.Concat(all[:place], all[place+1:]) // the one that is missing would be the 17th
		for _, n := range both(l) {
			if m, e := n.With(all[place]); e != api.ErrFull || m.Leaf || len(m.L) != 0 {
				t.Errorf("16 entries with %v: %v %d", all[place], m, e)
			}
			for _, old := range l {
				old.Page = 777
				if m, e := n.With(old); e != api.OK || len(m.L) != 16 {
					t.Errorf("16 entries with %v, whose key is there: %v %d", old, m, e)
				}
				agreeWith(t, n, old)
			}
		}
	}
	for _, n := range both(rising(15)) {
		if m, e := n.With(x(15, 65535, 9)); e != api.OK || len(m.L) != 16 || m.L[15] != x(15, 65535, 9) {
			t.Errorf("15 entries with one more: %v %d", m, e)
		}
	}
}

// P9.2: an entry that isn't right, be there room or not; a wrong node tells its own error first.
func TestWithOfWrong(t *testing.T) {
	for _, e := range wrongEntries() {
		for _, l := range []list{nil, rising(1), {x(1, 5, 9)}, rising(15), rising(16)} {
			for _, n := range both(l) {
				want := api.ErrRange
				if !n.Leaf && len(l) == 0 {
					want = api.ErrForm
				}
				if m, f := n.With(e); f != want || m.Leaf || len(m.L) != 0 {
					t.Errorf("%v with %v: %v %d, want %d", n, e, m, f, want)
				}
			}
		}
	}
	for want, nodes := range faulty() {
		for _, n := range nodes {
			for _, e := range append(wrongEntries(), x(1, 5, 9), x(0, 0, 2), x(15, 65535, 2047)) {
				if m, f := n.With(e); f != want || m.Leaf || len(m.L) != 0 {
					t.Errorf("%v with %v: %v %d, want %d", n, e, m, f, want)
				}
			}
		}
	}
}

// P9.2: each key, of nodes of each count; the only one of either kind leaves none.
func TestWithout(t *testing.T) {
	for count := range 17 {
		l := rising(count)
		for _, n := range both(l) {
			for i, e := range l {
				want := leaf.Node{Leaf: n.Leaf, L: slices.Concat(l[:i], l[i+1:])}
				if m, f := n.Without(e.Key); !slowSame(m, want) || f != api.OK {
					t.Errorf("%v without %v: %v %d", n, e.Key, m, f)
				}
			}
		}
	}
	for _, n := range both(list{x(1, 5, 9)}) {
		if m, e := n.Without(k(1, 5)); m.Leaf != n.Leaf || len(m.L) != 0 || e != api.OK {
			t.Errorf("%v without its only one: %v %d", n, m, e)
		}
	}
}

// P9.2: keys that aren't there, be they keys or not; a wrong node tells its own error first.
func TestWithoutOfNone(t *testing.T) {
	l := list{x(1, 5, 9), x(1, 7, 4), x(3, 0, 2)}
	for _, n := range append(both(l), leaf.Node{Leaf: true}, leaf.Node{Leaf: true, L: list{}}) {
		for _, key := range append(keys(), k(1, 8), k(2, 5), k(2, 7), k(3, 5), k(0, 7), k(3, -1)) {
			if key == k(1, 5) {
				continue
			}
			if m, e := n.Without(key); e != api.ErrNone || m.Leaf || len(m.L) != 0 {
				t.Errorf("%v without %v: %v %d", n, key, m, e)
			}
		}
	}
	for want, nodes := range faulty() {
		for _, n := range nodes {
			for _, key := range append(around(n.L), k(1, 5), k(9, 9)) {
				if m, e := n.Without(key); e != want || m.Leaf || len(m.L) != 0 {
					t.Errorf("%v without %v: %v %d, want %d", n, key, m, e, want)
				}
			}
		}
	}
}

// P9.2: all lists of few entries, with each and without each.
func TestChangesOfEveryNode(t *testing.T) {
	everyList(2, func(l list) {
		for _, n := range both(l) {
			everyList(1, func(one list) {
				for _, e := range one {
					agreeWith(t, n, e)
					agreeWithout(t, n, e.Key)
					if slowRise(l) {
						agreeFind(t, n, e.Key)
					}
				}
			})
		}
	})
	for _, l := range rights() {
		for _, n := range both(l) {
			for _, key := range slices.Concat(keys(), around(l)) {
				agreeWith(t, n, leaf.Entry{Key: key, Page: 2047})
				agreeWithout(t, n, key)
			}
		}
	}
}

// P9.3: by name: too few, an even and an odd count.
func TestSplit(t *testing.T) {
	l := list{x(0, 1, 2), x(0, 2, 3), x(1, 0, 4), x(9, 9, 5), x(15, 0, 6)}
	for _, y := range []struct {
		count, first int
		want         api.Errno
	}{{0, 0, api.ErrState}, {1, 0, api.ErrState}, {2, 1, api.OK}, {3, 1, api.OK}, {4, 2, api.OK}, {5, 2, api.OK}} {
		for _, n := range both(l[:y.count]) {
			want, first, second := y.want, leaf.Node{}, leaf.Node{}
			if y.count == 0 && !n.Leaf {
				want = api.ErrForm // it isn't right, to begin with
			}
			if want == api.OK {
				first, second = leaf.Node{Leaf: n.Leaf, L: l[:y.first]}, leaf.Node{Leaf: n.Leaf, L: l[y.first:y.count]}
			}
			if a, b, e := n.Split(); !slowSame(a, first) || !slowSame(b, second) || e != want {
				t.Errorf("%v.Split() = %v %v %d, want %v %v %d", n, a, b, e, first, second, want)
			}
		}
	}
	for _, y := range [][2]int{{15, 7}, {16, 8}} {
		for _, n := range both(rising(y[0])) {
			if a, b, e := n.Split(); len(a.L) != y[1] || len(b.L) != 8 || a.Leaf != n.Leaf || b.Leaf != n.Leaf || e != api.OK {
				t.Errorf("%v.Split() = %v %v %d", n, a, b, e)
			}
		}
	}
}

// P9.3 and P9.4: each count is split, and what is split is merged as it was; wrong nodes aren't.
func TestSplitOfAll(t *testing.T) {
	for count := range 18 {
		for _, n := range both(rising(count)) {
			agreeSplit(t, n)
		}
	}
	for _, l := range rights() {
		for _, n := range both(l) {
			agreeSplit(t, n)
		}
	}
	everyList(3, func(l list) {
		for _, n := range both(l) {
			agreeSplit(t, n)
		}
	})
	for want, nodes := range faulty() {
		for _, n := range nodes {
			if a, b, e := n.Split(); e != want || a.Leaf || b.Leaf || len(a.L)+len(b.L) != 0 {
				t.Errorf("%v.Split() = %v %v %d, want %d", n, a, b, e, want)
			}
		}
	}
}

// P9.3: by name, each error ahead of those behind it.
func TestMerge(t *testing.T) {
	all := rising(17)
	of := func(is bool, l list) leaf.Node { return leaf.Node{Leaf: is, L: l} }
	for i, y := range []struct {
		a, b leaf.Node
		l    list
		want api.Errno
	}{
		{of(true, all[:1]), of(true, all[1:2]), all[:2], api.OK},
		{of(false, all[:1]), of(false, all[1:2]), all[:2], api.OK},
		{of(true, all[:9]), of(true, all[9:16]), all[:16], api.OK},
		{of(false, all[:1]), of(false, all[1:16]), all[:16], api.OK},
		{of(true, nil), of(true, nil), nil, api.OK},
		{of(true, nil), of(true, all[:3]), all[:3], api.OK},
		{of(true, all[:3]), of(true, list{}), all[:3], api.OK},
		{of(true, nil), of(true, all[:16]), all[:16], api.OK},
		{of(true, all[:16]), of(true, nil), all[:16], api.OK},

		{of(true, all[:1]), of(false, all[1:2]), nil, api.ErrState},
		{of(false, all[:1]), of(true, all[1:2]), nil, api.ErrState},
		{of(true, nil), of(false, all[:2]), nil, api.ErrState},
		{of(false, all[:2]), of(true, nil), nil, api.ErrState},
		{of(true, all[:9]), of(false, all[9:17]), nil, api.ErrState},
		{of(true, all[1:2]), of(false, all[:1]), nil, api.ErrState},

		{of(true, all[:9]), of(true, all[9:17]), nil, api.ErrFull},
		{of(false, all[:1]), of(false, all[1:17]), nil, api.ErrFull},
		{of(false, all[:16]), of(false, all[16:]), nil, api.ErrFull},
		{of(true, all[:16]), of(true, all[:16]), nil, api.ErrFull},
		{of(true, all[9:17]), of(true, all[:9]), nil, api.ErrFull},

		{of(true, all[1:2]), of(true, all[:1]), nil, api.ErrForm},
		{of(true, all[:2]), of(true, all[1:3]), nil, api.ErrForm},
		{of(false, all[:8]), of(false, all[7:15]), nil, api.ErrForm},
		{of(false, all[8:16]), of(false, all[:8]), nil, api.ErrForm},
		{of(true, all[:3]), of(true, list{x(0, 0, 2), x(15, 0, 2)}), nil, api.ErrForm},
		{of(true, list{x(1, 5, 8)}), of(true, list{x(1, 5, 9)}), nil, api.ErrForm},
		{of(true, list{x(1, 5, 8)}), of(true, list{x(0, 6, 9)}), nil, api.ErrForm},
		{of(true, list{x(1, 5, 8)}), of(true, list{x(1, 4, 9)}), nil, api.ErrForm},
	} {
		want := leaf.Node{}
		if y.want == api.OK {
			want = of(y.a.Leaf, y.l)
		}
		if m, e := leaf.Merge(y.a, y.b); !slowSame(m, want) || e != y.want {
			t.Errorf("%d: Merge(%v, %v) = %v %d, want %v %d", i, y.a, y.b, m, e, want, y.want)
		}
	}
}

// P9.3: a wrong node first, second, and both: the first one's error is told, ahead of all that is wrong with the two.
func TestMergeOfWrong(t *testing.T) {
	var right []leaf.Node
	for _, l := range []list{nil, {x(1, 5, 9)}, rising(16)} {
		right = append(right, both(l)...)
	}
	right = slices.DeleteFunc(right, func(n leaf.Node) bool { return !n.Leaf && len(n.L) == 0 })
	for want, nodes := range faulty() {
		for _, n := range nodes {
			for _, r := range right {
				for _, pair := range [][2]leaf.Node{{n, r}, {r, n}} {
					if m, e := leaf.Merge(pair[0], pair[1]); e != want || m.Leaf || len(m.L) != 0 {
						t.Errorf("Merge(%v, %v) = %v %d, want %d", pair[0], pair[1], m, e, want)
					}
				}
			}
			for _, others := range faulty() {
				for _, o := range others {
					if m, e := leaf.Merge(n, o); e != want || m.Leaf || len(m.L) != 0 {
						t.Errorf("Merge(%v, %v) = %v %d, want %d", n, o, m, e, want)
					}
				}
			}
		}
	}
}

// P9.3: all pairs of nodes of up to one entry, and of what rises cut anywhere.
func TestMergeOfAll(t *testing.T) {
	var few []leaf.Node
	everyList(1, func(l list) { few = append(few, both(l)...) })
	for _, a := range few {
		for _, b := range few {
			agreeMerge(t, a, b)
		}
	}
	all := rising(17)
	for to := range 18 {
		for from := range 18 {
			for _, a := range both(all[:to]) {
				for _, b := range both(all[from:]) {
					agreeMerge(t, a, b)
					agreeMerge(t, b, a)
				}
			}
		}
	}
}
