package cow_test

import (
	"slices"
	"testing"

	"incipit/api"
	"incipit/leaf"
)

// orders: the numbers below n, rising, falling and mixed.
func orders(n int) [][]int {
	var rising, mixed []int
	for i := range n {
		rising = append(rising, i)
	}
	falling := slices.Clone(rising)
	slices.Reverse(falling)
	dice := dice(n)
	for _, i := range rising {
		mixed = slices.Insert(mixed, dice.below(i+1), i)
	}
	return [][]int{rising, falling, mixed}
}

// nth: the n-th of keys that rise, in all sections, with room between them.
func nth(n int) leaf.Key { return k(n%1600/100, 3*(n%100)+1+300*(n/1600)) }

// P10.2, P10.3: the chapter's example: one entry is one node, seventeen are three.
func TestExample(t *testing.T) {
	for _, order := range orders(17) {
		r := begun(t, 64)
		for i, no := range order {
			r.put(k(3, no), 100+no)
			want := 1
			if i == 16 {
				want = 3
			}
			if l, e := r.x.Nodes(); len(l) != want || e != api.OK {
				t.Errorf("%d entries: Nodes = %v %d, want %d", i+1, l, e, want)
			}
		}
	}
}

// P10.2: the seventeenth entry of a leaf at each place, in the first half and in the second one.
func TestSplit(t *testing.T) {
	for no := range 17 {
		r := begun(t, 64)
		r.tight = true
		for i := range 16 {
			if i >= no {
				i++
			}
			r.put(k(1, i), 50+i)
		}
		r.put(k(1, no), 1000)
		first, second := r.root.kids[0], r.root.kids[1]
		// The second half's lowest is the ninth of the sixteen.
		ninth := 8
		if no <= 8 {
			ninth = 9
		}
		wantFirst := 8
		if no < ninth {
			wantFirst = 9
		}
		if len(first.l) != wantFirst || len(second.l) != 17-wantFirst {
			t.Errorf("%d: %d and %d entries", no, len(first.l), len(second.l))
		}
	}
}

// P10.2: just below the second half's lowest, and just above it; at it the key is there, and nothing is split.
func TestSplitAtTheSecondHalf(t *testing.T) {
	for _, c := range []struct{ no, first, second int }{{79, 9, 8}, {81, 8, 9}, {1, 9, 8}, {65535, 8, 9}} {
		r := begun(t, 64)
		for i := range 16 {
			r.put(k(2, 10*i), 9)
		}
		r.put(k(2, 80), 10)
		if l, e := r.x.Nodes(); len(l) != 1 || e != api.OK {
			t.Errorf("16 keys: Nodes = %v %d", l, e)
		}
		r.put(k(2, c.no), 9)
		l, _ := r.x.Nodes()
		for i, want := range []int{2, c.first, c.second} {
			if n := nodeAt(t, r.d, l[i]); len(n.L) != want {
				t.Errorf("%d: node %d has %d entries, want %d", c.no, i, len(n.L), want)
			}
		}
	}
}

// P10.1 to P10.4: many keys put rising, falling and mixed, and dropped in each of these orders till none is left.
func TestPutAndDropAll(t *testing.T) {
	for _, n := range []int{1, 2, 16, 17, 18, 33, 150, 400} {
		for _, in := range orders(n) {
			for _, out := range orders(n) {
				r := begun(t, 512)
				r.seldom = n / 40
				for _, i := range in {
					r.put(nth(i), 2+i)
				}
				for _, i := range out {
					r.drop(nth(i))
				}
				if l, e := r.x.Nodes(); len(l) != 0 || e != api.OK || r.x.Root() != 0 || r.a.Free() != 510 {
					t.Errorf("of nothing: Nodes %v %d, Root %d, Free %d", l, e, r.x.Root(), r.a.Free())
				}
				r.put(k(0, 0), 2)
			}
		}
	}
}

// P10.2, P10.4: trees of four levels, put and dropped in each order: nodes above of 17 are two of 8 and 9, and roots go up and down.
func TestManyLevels(t *testing.T) {
	for at, in := range orders(1800) {
		r := begun(t, 1024)
		r.seldom = 200
		reached := map[int]int{}
		for i, no := range in {
			was := depth(r.root)
			r.put(nth(no), 2+no%2000)
			if now := depth(r.root); now != was {
				reached[now] = i + 1
			}
		}
		if reached[2] != 17 || at < 2 && depth(r.root) != 4 || depth(r.root) < 3 {
			t.Errorf("order %d: levels were reached with so many keys: %v", at, reached)
		}
		for _, no := range orders(1800)[2-at] {
			r.drop(nth(no))
		}
		r.agree()
		if r.x.Root() != 0 || r.a.Free() != 1022 {
			t.Errorf("of nothing: Root %d, Free %d", r.x.Root(), r.a.Free())
		}
	}
}

// P10.2: a node above of 16 gets its 17th: 8 and 9, and a root of two above them.
func TestSeventeenthAbove(t *testing.T) {
	r := begun(t, 256)
	n := 0
	for ; depth(r.root) < 3; n++ {
		r.tight = r.root != nil && len(r.root.kids) == 16
		r.put(k(0, n), 5)
	}
	if len(r.root.kids) != 2 || len(r.root.kids[0].kids) != 8 || len(r.root.kids[1].kids) != 9 {
		t.Errorf("the root has %d, those below %d and %d", len(r.root.kids), len(r.root.kids[0].kids), len(r.root.kids[1].kids))
	}
	l, _ := r.x.Nodes()
	if len(l) != 20 || n != 17+15*8 {
		t.Errorf("%d keys, %d nodes", n, len(l))
	}
}

// P10.2: a key that is there: the page that it had is answered, and each node on the way stands anew, even with the same page.
func TestPutAgain(t *testing.T) {
	r := begun(t, 256)
	for i := range 200 {
		r.put(k(1, 2*i), 2+i)
	}
	r.tight = true
	for _, i := range []int{0, 1, 77, 198, 199} {
		r.put(k(1, 2*i), 2047)
		root := r.x.Root()
		r.put(k(1, 2*i), 2047)
		if r.x.Root() == root {
			t.Error("the root was written over, or not at all")
		}
		r.put(k(1, 2*i), 2)
	}
}

// P10.2: a key below all: it is the lowest one all the way above; dropped, the old one is it again.
func TestBelowAll(t *testing.T) {
	r := begun(t, 256)
	for i := range 300 {
		r.put(k(5, i), 9)
	}
	r.tight = true
	for _, key := range []leaf.Key{k(4, 9), k(0, 1), k(0, 0)} {
		r.put(key, 3)
		for b := r.root; !b.leaf; b = b.kids[0] {
			if n := nodeAt(t, r.d, b.page); n.L[0].Key != key {
				t.Errorf("above %v stands %v", key, n.L[0])
			}
		}
	}
	r.drop(k(0, 0))
	r.drop(k(0, 1))
	r.drop(k(4, 9))
	r.drop(k(5, 0))
}

// P10.2: keys and pages at their limits.
func TestLimits(t *testing.T) {
	r := begun(t, 64)
	r.tight = true
	for _, e := range []leaf.Entry{x(0, 0, 2), x(15, 65535, 2047), x(0, 65535, 3), x(15, 0, 2046)} {
		r.put(e.Key, e.Page)
		if page, f := r.x.Get(e.Key); page != e.Page || f != api.OK {
			t.Errorf("Get(%v) = %d %d", e.Key, page, f)
		}
	}
	for _, key := range []leaf.Key{k(15, 65535), k(0, 0), k(15, 0), k(0, 65535)} {
		r.drop(key)
	}
}

// P10.2, P10.3: too few pages and power that goes at each write, in puts and drops of trees of one, two and three levels.
func TestTight(t *testing.T) {
	r := begun(t, 300)
	order := orders(160)[2]
	for i, no := range order {
		r.tight = i < 20 || i%16 == 0 || len(r.root.kids) == 16
		r.put(nth(no), 2+no)
	}
	if depth(r.root) != 3 {
		// Mixed keys fill leaves better: some more in order reach the third level.
		for i := range 100 {
			r.tight = len(r.root.kids) >= 16
			r.put(k(15, 1000+i), 2)
		}
	}
	if depth(r.root) != 3 {
		t.Fatalf("depth %d", depth(r.root))
	}
	for i, e := range entries(r.root) {
		r.tight = i%9 == 0 || len(r.root.kids) <= 2
		r.drop(e.Key)
	}
}

// P10.2, P10.3: with no page free Put is ErrFull, which is named ahead of what reading the tree would tell.
func TestFullAheadOfAll(t *testing.T) {
	r := begun(t, 2)
	put := func() (int, api.Errno) { return r.x.Put(k(1, 1), 5) }
	drop := func() (int, api.Errno) { return r.x.Drop(k(1, 1)) }
	r.unchanged("no pages", put, api.ErrFull)
	r.d.Crash()
	r.unchanged("no pages, no power", put, api.ErrFull)
	r.unchanged("no entries, no power", drop, api.ErrNone)

	r = begun(t, 16)
	for i := range 5 {
		r.put(k(1, i), 9)
	}
	r.leave(0)
	r.unchanged("no pages", put, api.ErrFull)
	r.unchanged("no pages", drop, api.ErrFull)
	r.d.Write(r.x.Root(), make([]byte, 256))
	r.unchanged("no pages, no node", put, api.ErrFull)
	r.unchanged("no pages, no node", drop, api.ErrSum)
	r.d.Crash()
	r.unchanged("no pages, no power", put, api.ErrFull)
	r.unchanged("no pages, no power", drop, api.ErrDown)
}

// P10.2: a Drop that writes nothing needs no page, and no write.
func TestDropWithoutPages(t *testing.T) {
	r := begun(t, 64)
	for i := range 17 {
		r.put(k(0, i), 9)
	}
	for i := range 7 {
		r.drop(k(0, i))
	}
	// One is left in the first leaf: without it the root would have one entry alone.
	hog := r.leave(0)
	r.d.Arm(0)
	if had, e := r.x.Drop(k(0, 7)); had != 9 || e != api.OK || !r.d.On() {
		t.Fatalf("Drop = %d %d, On %v", had, e, r.d.On())
	}
	r.d.Arm(-1)
	r.back(hog)
	r.root = drop(r.root, k(0, 7))
	r.agree()
	if !r.root.leaf || len(r.root.l) != 9 {
		t.Errorf("the root is %v", r.root)
	}
	for i := 8; i < 16; i++ {
		r.drop(k(0, i))
	}
	r.tight = true
	r.drop(k(0, 16))
}

// P10.2: a root that would have one entry alone isn't written, nor is that one, if it is such a root then.
func TestRootGoesDown(t *testing.T) {
	for _, keep := range []int{0, 1} {
		r := begun(t, 256)
		for i := 0; depth(r.root) < 3; i++ {
			r.put(k(0, i), 9)
		}
		// Below one of the root's two a single leaf is left, and below the other one a single key.
		for len(r.root.kids[keep].kids) > 1 {
			r.drop(lowest(r.root.kids[keep].kids[1]))
		}
		last := r.root.kids[1-keep]
		for len(entries(last)) > 1 {
			r.drop(entries(last)[1].Key)
			last = r.root.kids[1-keep]
		}
		if depth(r.root) != 3 || len(r.root.kids) != 2 {
			t.Fatalf("depth %d, %d below the root", depth(r.root), len(r.root.kids))
		}
		r.tight = true
		r.drop(lowest(last))
		if n, e := r.x.Depth(); n != 1 || e != api.OK || depth(r.root) != 1 {
			t.Errorf("Depth = %d %d, want 1", n, e)
		}
		if l, _ := r.x.Nodes(); len(l) != 1 {
			t.Errorf("Nodes = %v", l)
		}
	}
}

// P10.2: a node above that would be without entries is left out, and the others stay.
func TestNodeAboveIsLeftOut(t *testing.T) {
	r := begun(t, 256)
	for i := 0; depth(r.root) < 3 || len(r.root.kids) < 3; i++ {
		r.put(k(0, i), 9)
	}
	for _, at := range []int{1, 0} {
		gone := entries(r.root.kids[at])
		for i, e := range gone {
			r.tight = i >= len(gone)-2
			r.drop(e.Key)
		}
	}
	if depth(r.root) != 2 {
		t.Errorf("depth %d, want 2", depth(r.root))
	}
}

// P10.2: a key that isn't there, in trees of each size, and what isn't a key.
func TestDropOfNone(t *testing.T) {
	r := begun(t, 256)
	r.seldom = 16
	for n := range 200 {
		for _, key := range []leaf.Key{k(0, 0), k(5, 2*n), k(5, 2*n+2), k(5, 65535), k(15, 65535)} {
			r.unchanged("Drop of none", func() (int, api.Errno) { return r.x.Drop(key) }, api.ErrNone)
			r.unchanged("Get of none", func() (int, api.Errno) { return r.x.Get(key) }, api.ErrNone)
		}
		for _, key := range wrongKeys() {
			r.unchanged("Drop of no key", func() (int, api.Errno) { return r.x.Drop(key) }, api.ErrRange)
		}
		r.put(k(5, 2*n+1), 9)
	}
}
