package cow_test

import (
	"slices"
	"strconv"
	"testing"

	"incipit/alloc"
	"incipit/api"
	"incipit/cow"
	"incipit/device"
	"incipit/frame"
	"incipit/leaf"
	"incipit/varint"
)

// laid is a device with nodes that were laid by hand, in an allocator that has their pages committed.
type laid struct {
	t *testing.T
	d *device.Device
	a *alloc.Alloc
}

func laidOn(t *testing.T, pages int) *laid {
	t.Helper()
	d, e := device.New(pages)
	a, f := alloc.New(pages)
	if e != api.OK || f != api.OK {
		t.Fatal(e, f)
	}
	return &laid{t, d, a}
}

// node: one of epoch 3.
func (l *laid) node(page int, n leaf.Node) {
	l.t.Helper()
	body, e := leaf.Encode(n)
	if e != api.OK {
		l.t.Fatal(n, e)
	}
	l.body(page, 2, page, body)
	if l.a.Kind(page) == alloc.Free {
		l.a.Adopt(page)
		l.a.Commit()
	}
}

// body: a frame with any body.
func (l *laid) body(at, kind, page int, body []byte) {
	l.t.Helper()
	b, e := frame.Encode(frame.Frame{Kind: kind, Epoch: 3, Page: page, Body: body})
	if e != api.OK {
		l.t.Fatal(e)
	}
	l.bytes(at, b)
}

func (l *laid) bytes(at int, b []byte) {
	l.t.Helper()
	if e := l.d.Write(at, b); e != api.OK {
		l.t.Fatal(e)
	}
	if e := l.d.Sync(); e != api.OK {
		l.t.Fatal(e)
	}
}

// open: the tree of a root, of epoch 9.
func (l *laid) open(root int) *cow.Tree {
	l.t.Helper()
	return opened(l.t, l.d, l.a, root, 9)
}

// rig: for what is to be unchanged.
func (l *laid) rig(x *cow.Tree) *rig { return &rig{t: l.t, d: l.d, a: l.a, x: x, epoch: 9} }

// call is one of the calls, as its error alone; beside one every other answer must be nothing.
type call struct {
	name string
	do   func() api.Errno
}

// ofKey: the calls that go down to a key.
func (r *rig) ofKey(key leaf.Key) []call {
	one := func(name string, do func() (int, api.Errno)) call {
		return call{name, func() api.Errno {
			n, e := do()
			if e != api.OK && n != 0 {
				r.t.Errorf("%s: %d beside %d", name, n, e)
			}
			return e
		}}
	}
	return []call{
		one("Get", func() (int, api.Errno) { return r.x.Get(key) }),
		one("Put", func() (int, api.Errno) { return r.x.Put(key, 77) }),
		one("Drop", func() (int, api.Errno) { return r.x.Drop(key) }),
	}
}

// ofAll: the calls that go through all nodes.
func (r *rig) ofAll() []call {
	return []call{
		{"Range", func() api.Errno {
			l, e := r.x.Range(k(0, 0), k(15, 65535))
			if e != api.OK && l != nil {
				r.t.Errorf("Range: %v beside %d", l, e)
			}
			return e
		}},
		{"Range of none", func() api.Errno {
			_, e := r.x.Range(k(3, 0), k(2, 0))
			return e
		}},
		{"Nodes", func() api.Errno {
			l, e := r.x.Nodes()
			if e != api.OK && l != nil {
				r.t.Errorf("Nodes: %v beside %d", l, e)
			}
			return e
		}},
	}
}

// ofFirst: the call that goes to the first entry.
func (r *rig) ofFirst() []call {
	return []call{{"Depth", func() api.Errno {
		n, e := r.x.Depth()
		if e != api.OK && n != 0 {
			r.t.Errorf("Depth: %d beside %d", n, e)
		}
		return e
	}}}
}

// fail: the calls tell this error, and change nothing.
func (r *rig) fail(what string, want api.Errno, calls ...[]call) {
	r.t.Helper()
	for _, c := range slices.Concat(calls...) {
		r.unchanged(what+": "+c.name, func() (int, api.Errno) { return 0, c.do() }, want)
	}
}

// spoilt: what may stand on a page instead of the node there.
func spoilt(t *testing.T, d *device.Device, page int) map[string][]byte {
	t.Helper()
	was, e := d.Read(page)
	if e != api.OK {
		t.Fatal(e)
	}
	f, e := frame.Decode(was)
	if e != api.OK {
		t.Fatal(e)
	}
	framed := func(kind, page int, body []byte) []byte {
		b, e := frame.Encode(frame.Frame{Kind: kind, Epoch: 3, Page: page, Body: body})
		if e != api.OK {
			t.Fatal(e)
		}
		return b
	}
	all := map[string][]byte{
		"all 0":              make([]byte, 256),
		"kind 1":             framed(1, page, f.Body),
		"kind 3":             framed(3, page, f.Body),
		"another page":       framed(2, page+1, f.Body),
		"no body":            framed(2, page, nil),
		"a byte more":        framed(2, page, append(slices.Clone(f.Body), 0)),
		"a byte less":        framed(2, page, f.Body[:len(f.Body)-1]),
		"no leaf, no entry":  framed(2, page, []byte{0, 0}),
		"leaf of 2":          framed(2, page, append([]byte{2}, f.Body[1:]...)),
		"keys that fall":     framed(2, page, slices.Concat([]byte{1, 2}, varint.Put(1, 5, 9, 1, 4, 9))),
		"a page of nothing":  framed(2, page, slices.Concat([]byte{1, 1}, varint.Put(1, 5, 1))),
		"a key beyond":       framed(2, page, slices.Concat([]byte{1, 1}, varint.Put(16, 5, 9))),
		"seventeen":          framed(2, page, slices.Concat([]byte{1, 17}, slices.Repeat(varint.Put(1, 5, 9), 17))),
		"a frame of no kind": slices.Repeat([]byte{0xF1}, 256),
	}
	for _, at := range []int{0, 1, 2, 6, 8, 10, 11, 100, 247, 248, 252, 255} {
		b := slices.Clone(was)
		b[at] ^= 0x40
		all["turned at "+strconv.Itoa(at)] = b
	}
	return all
}

// P10.3: a page that is no node's, as the root, in the middle and as a leaf, in each call; who doesn't meet it doesn't tell it.
func TestWrongPages(t *testing.T) {
	r := begun(t, 256)
	for i := 0; depth(r.root) < 3 || len(r.root.kids) < 3; i++ {
		r.put(k(1, i), 9)
	}
	if e := r.d.Sync(); e != api.OK {
		t.Fatal(e)
	}
	middle := r.root.kids[1]
	for _, b := range []*branch{r.root, r.root.kids[0], middle, r.root.kids[2], r.root.kids[0].kids[0], middle.kids[0], middle.kids[3], r.root.kids[2].kids[0]} {
		was, _ := r.d.Read(b.page)
		for what, bytes := range spoilt(t, r.d, b.page) {
			if e := r.d.Write(b.page, bytes); e != api.OK {
				t.Fatal(e)
			}
			r.fail(what, api.ErrSum, r.ofAll())
			for _, key := range []leaf.Key{lowest(b), entries(b)[0].Key} {
				r.fail(what, api.ErrSum, r.ofKey(key))
			}
			r.others(what, b)
			if e := r.d.Write(b.page, was); e != api.OK {
				t.Fatal(e)
			}
		}
		r.agree()
	}
}

// others: what doesn't meet a branch that is spoilt tells the right things.
func (r *rig) others(what string, spoilt *branch) {
	r.t.Helper()
	met := map[int]struct{}{}
	for b := r.root; ; b = b.kids[0] {
		met[b.page] = struct{}{}
		if b.leaf {
			break
		}
	}
	n, e := r.x.Depth()
	if _, ok := met[spoilt.page]; ok {
		if n != 0 || e != api.ErrSum {
			r.t.Errorf("%s: Depth = %d %d", what, n, e)
		}
	} else if n != depth(r.root) || e != api.OK {
		r.t.Errorf("%s: Depth = %d %d, and the way to the first entry is whole", what, n, e)
	}
	for _, y := range entries(r.root) {
		want, page := api.OK, y.Page
		if between(entries(spoilt), y.Key, k(15, 65535)) != nil && !less(y.Key, lowest(spoilt)) {
			want, page = api.ErrSum, 0
		}
		if got, e := r.x.Get(y.Key); got != page || e != want {
			r.t.Fatalf("%s: Get(%v) = %d %d, want %d", what, y.Key, got, e, want)
		}
	}
}

// P10.3: each byte of a root's page, turned.
func TestEachByteTurned(t *testing.T) {
	r := begun(t, 16)
	for i := range 5 {
		r.put(k(1, i), 9)
	}
	was, _ := r.d.Read(r.x.Root())
	for at := range was {
		b := slices.Clone(was)
		b[at]++
		if e := r.d.Write(r.x.Root(), b); e != api.OK {
			t.Fatal(e)
		}
		r.fail("turned", api.ErrSum, r.ofKey(k(1, 2)), r.ofAll(), r.ofFirst())
	}
	r.d.Write(r.x.Root(), was)
	r.agree()
}

// P10.3: a root, or a node below, that isn't on the device is no frame.
func TestPageBehindTheDevice(t *testing.T) {
	l := laidOn(t, 64)
	for _, root := range []int{64, 2047, 63} {
		r := l.rig(l.open(root))
		r.fail("no such page", api.ErrSum, r.ofKey(k(1, 5)), r.ofAll(), r.ofFirst())
	}
	l.node(2, leaf.Node{L: list{x(1, 0, 100), x(2, 0, 3)}})
	l.node(3, leaf.Node{Leaf: true, L: list{x(2, 0, 2000)}})
	r := l.rig(l.open(2))
	r.fail("below", api.ErrSum, r.ofKey(k(1, 5)), r.ofAll(), r.ofFirst())
	// The pages of a leaf's entries aren't nodes', and aren't met.
	if page, e := r.x.Get(k(2, 0)); page != 2000 || e != api.OK {
		t.Errorf("Get = %d %d", page, e)
	}
	r = l.rig(l.open(3))
	if got, e := r.x.Range(k(0, 0), k(15, 0)); !slices.Equal(got, list{x(2, 0, 2000)}) || e != api.OK {
		t.Errorf("Range = %v %d", got, e)
	}
}

// chain: so many nodes, one below the other, from page 2 on; the last one is a leaf.
func chain(t *testing.T, n int) *laid {
	t.Helper()
	l := laidOn(t, 64)
	for i := range n - 1 {
		l.node(2+i, leaf.Node{L: list{x(1, 5, 3+i)}})
	}
	l.node(1+n, leaf.Node{Leaf: true, L: list{x(1, 5, 50), x(1, 7, 51)}})
	return l
}

// P10.3: eight nodes on the way are met, the ninth one isn't.
func TestChains(t *testing.T) {
	for n := 1; n <= 8; n++ {
		x := chain(t, n).open(2)
		if page, e := x.Get(k(1, 5)); page != 50 || e != api.OK {
			t.Errorf("%d: Get = %d %d", n, page, e)
		}
		if _, e := x.Get(k(1, 6)); e != api.ErrNone {
			t.Errorf("%d: Get of none: %d", n, e)
		}
		if got, e := x.Depth(); got != n || e != api.OK {
			t.Errorf("%d: Depth = %d %d", n, got, e)
		}
		if got, e := x.Range(k(1, 6), k(2, 0)); len(got) != 1 || e != api.OK {
			t.Errorf("%d: Range = %v %d", n, got, e)
		}
		if got, e := x.Nodes(); !slices.Equal(got, []int{2, 3, 4, 5, 6, 7, 8, 9}[:n]) || e != api.OK {
			t.Errorf("%d: Nodes = %v %d", n, got, e)
		}
	}
	for n := 9; n < 12; n++ {
		l := chain(t, n)
		r := l.rig(l.open(2))
		r.fail("too deep", api.ErrSum, r.ofKey(k(1, 5)), r.ofKey(k(1, 6)), r.ofKey(k(0, 0)), r.ofAll(), r.ofFirst())
	}
}

// P10.3: where one branch alone is too deep, the others are told.
func TestOneBranchTooDeep(t *testing.T) {
	l := chain(t, 8)
	l.node(20, leaf.Node{L: list{x(1, 0, 2), x(2, 0, 21)}})
	l.node(21, leaf.Node{Leaf: true, L: list{x(2, 0, 60)}})
	r := l.rig(l.open(20))
	r.fail("too deep", api.ErrSum, r.ofKey(k(1, 5)), r.ofAll(), r.ofFirst())
	if page, e := r.x.Get(k(2, 0)); page != 60 || e != api.OK {
		t.Errorf("Get = %d %d", page, e)
	}
	r = l.rig(l.open(3)) // the chain's second one: seven nodes
	if n, e := r.x.Depth(); n != 7 || e != api.OK {
		t.Errorf("Depth = %d %d", n, e)
	}
}

// P10.2: a change in a chain: no root that is no leaf has one entry alone, on all levels; a single page is enough.
func TestChangeInAChain(t *testing.T) {
	for n := 1; n <= 8; n++ {
		for name, want := range map[string]list{"Put": {x(1, 5, 77), x(1, 7, 51)}, "Drop": {x(1, 7, 51)}, "a new one": {x(0, 3, 77), x(1, 5, 50), x(1, 7, 51)}} {
			l := chain(t, n)
			r := l.rig(l.open(2))
			hog := r.leave(1)
			had, e := 0, api.OK
			switch name {
			case "Put":
				had, e = r.x.Put(k(1, 5), 77)
			case "Drop":
				had, e = r.x.Drop(k(1, 5))
			default:
				had, e = r.x.Put(k(0, 3), 77)
			}
			if had != 50 && len(want) != 3 || e != api.OK {
				t.Fatalf("%s in %d: %d %d", name, n, had, e)
			}
			r.back(hog)
			r.root = &branch{leaf: true, l: want}
			r.notice()
			r.free[r.x.Root()] = struct{}{} // it was
			r.agree()
			if _, _, pending := l.a.Sets(); pending.Count() != n {
				t.Errorf("%s in %d: %v are given", name, n, pending.All())
			}
		}
	}
}

// P10.2: what is the root now is gone down from, too, be it one that wasn't on the way; it is met then.
func TestRootGoesDownAlong(t *testing.T) {
	build := func(n int) *laid {
		l := chain(t, n)
		l.node(40, leaf.Node{L: list{x(1, 0, 2), x(2, 0, 41)}})
		l.node(41, leaf.Node{Leaf: true, L: list{x(2, 0, 60)}})
		return l
	}
	for n := 1; n <= 7; n++ {
		l := build(n)
		r := l.rig(l.open(40))
		r.leave(0)
		if had, e := r.x.Drop(k(2, 0)); had != 60 || e != api.OK || r.x.Root() != 1+n {
			t.Fatalf("%d: Drop = %d %d, Root %d", n, had, e, r.x.Root())
		}
		if depth, e := r.x.Depth(); depth != 1 || e != api.OK {
			t.Errorf("%d: Depth = %d %d", n, depth, e)
		}
		if _, _, pending := l.a.Sets(); pending.Count() != n+1 {
			t.Errorf("%d: %v are given", n, pending.All())
		}
	}
	// The ninth one on its way, and a page that is none.
	l := build(8)
	r := l.rig(l.open(40))
	r.fail("too deep", api.ErrSum, r.ofKey(k(2, 0))[2:])
	l = build(5)
	l.bytes(4, make([]byte, 256))
	r = l.rig(l.open(40))
	r.fail("no node", api.ErrSum, r.ofKey(k(2, 0))[2:])
}

// P10.3: a root that leads to itself, alone or among others.
func TestRootOfItself(t *testing.T) {
	l := laidOn(t, 64)
	l.node(2, leaf.Node{L: list{x(1, 5, 2)}})
	l.node(3, leaf.Node{L: list{x(1, 0, 4), x(2, 0, 3)}})
	l.node(4, leaf.Node{Leaf: true, L: list{x(1, 5, 50)}})
	r := l.rig(l.open(2))
	r.fail("of itself", api.ErrSum, r.ofKey(k(1, 5)), r.ofKey(k(0, 0)), r.ofAll(), r.ofFirst())
	r = l.rig(l.open(3))
	r.fail("of itself", api.ErrSum, r.ofKey(k(2, 5)), r.ofAll())
	if page, e := r.x.Get(k(1, 5)); page != 50 || e != api.OK {
		t.Errorf("Get = %d %d", page, e)
	}
	if n, e := r.x.Depth(); n != 2 || e != api.OK {
		t.Errorf("Depth = %d %d", n, e)
	}
	// Two that lead to each other, and sixteen to one: that ends.
	l.node(5, leaf.Node{L: list{x(1, 5, 6)}})
	l.node(6, leaf.Node{L: list{x(1, 5, 5)}})
	var wide list
	for i := range 16 {
		wide = append(wide, x(1, i, 7))
	}
	l.node(7, leaf.Node{L: wide})
	for _, root := range []int{5, 6, 7} {
		r := l.rig(l.open(root))
		r.fail("in a ring", api.ErrSum, r.ofKey(k(1, 5)), r.ofAll(), r.ofFirst())
	}
}

// P10.2: without a node the root would be one that was on the way to it: there is no such tree, and nothing is changed.
func TestBackToTheWay(t *testing.T) {
	l := laidOn(t, 64)
	l.node(2, leaf.Node{L: list{x(1, 0, 3), x(2, 0, 4)}})
	l.node(3, leaf.Node{L: list{x(1, 0, 2)}})
	l.node(4, leaf.Node{L: list{x(2, 0, 5)}})
	l.node(5, leaf.Node{Leaf: true, L: list{x(2, 0, 50)}})
	for _, back := range []int{2, 4, 5, 3} {
		l.node(3, leaf.Node{L: list{x(1, 0, back)}})
		r := l.rig(l.open(2))
		r.fail("back to the way", api.ErrSum, r.ofKey(k(2, 0))[2:])
		if page, e := r.x.Get(k(2, 0)); page != 50 || e != api.OK {
			t.Errorf("Get = %d %d", page, e)
		}
	}
}

// above: a node with n entries to one page and m to another one.
func above(n, page, m, other int) leaf.Node {
	var l list
	for i := range n + m {
		if i >= n {
			page = other
		}
		l = append(l, x(1, 100*i, page))
	}
	return leaf.Node{L: l}
}

// P10.3: nodes that are met more than once: 2048 in all are told, in Range and Nodes the 2049th isn't.
func TestMetMoreThanOnce(t *testing.T) {
	for _, one := range []leaf.Node{{Leaf: true, L: list{x(1, 5, 50), x(1, 6, 51)}}, {Leaf: true}} {
		l := laidOn(t, 64)
		l.node(2, one)
		l.node(3, above(16, 2, 0, 0))  // 17 in all
		l.node(4, above(16, 3, 0, 0))  // 273
		l.node(5, above(7, 4, 8, 3))   // 1 + 7*273 + 8*17 = 2048
		l.node(6, above(7, 4, 9, 3))   // 17 more
		l.node(7, above(7, 4, 7, 3))   // 17 fewer, with 2031
		l.node(9, above(1, 5, 0, 0))   // 2049
		l.node(10, above(16, 4, 0, 0)) // 4369
		for _, c := range []struct{ root, met, down int }{{5, 2048, 4}, {6, 2065, 4}, {7, 2031, 4}, {9, 2049, 5}, {10, 4369, 4}} {
			r := l.rig(l.open(c.root))
			first := c.down
			if len(one.L) == 0 {
				first = 0
			}
			if n, e := r.x.Depth(); n != first || e != api.OK {
				t.Errorf("root %d: Depth = %d %d, want %d", c.root, n, e, first)
			}
			if page, e := r.x.Get(k(1, 5)); page != 50 && e != api.ErrNone {
				t.Errorf("root %d: Get = %d %d", c.root, page, e)
			}
			if c.met > 2048 {
				r.fail("met too often", api.ErrSum, r.ofAll())
				continue
			}
			nodes, e := r.x.Nodes()
			if len(nodes) != c.met || e != api.OK {
				t.Errorf("root %d: %d nodes, %d, want %d", c.root, len(nodes), e, c.met)
			}
			leaves := 0
			for _, page := range nodes {
				if page == 2 {
					leaves++
				}
			}
			got, e := r.x.Range(k(1, 5), k(1, 6))
			if len(got) != leaves*len(one.L)/2 || e != api.OK {
				t.Errorf("root %d: %d entries, %d, of %d leaves", c.root, len(got), e, leaves)
			}
		}
	}
}

// P1, P10.3: leaves without entries, met very often: Depth ends, and goes on to the first entry, be it behind them.
func TestDepthBehindEmptyLeaves(t *testing.T) {
	l := laidOn(t, 64)
	l.node(2, leaf.Node{Leaf: true})
	for page := 3; page < 9; page++ {
		l.node(page, above(16, page-1, 0, 0))
	}
	l.node(9, leaf.Node{Leaf: true, L: list{x(1, 5, 50)}})
	l.node(10, above(1, 9, 0, 0))
	l.node(11, above(15, 8, 1, 10))
	l.node(12, above(2, 2, 0, 0))
	for root, want := range map[int]int{2: 0, 3: 0, 8: 0, 9: 1, 10: 2, 11: 3, 12: 0} {
		if n, e := l.open(root).Depth(); n != want || e != api.OK {
			t.Errorf("root %d: Depth = %d %d, want %d", root, n, e, want)
		}
	}
	// A leaf that is met as the ninth one, though it was met higher up ahead of that.
	l.node(20, above(1, 2, 1, 21))
	for page := 21; page < 27; page++ {
		l.node(page, above(1, page+1, 0, 0))
	}
	l.node(27, above(1, 2, 0, 0))
	r := l.rig(l.open(20))
	r.fail("the ninth one", api.ErrSum, r.ofAll(), r.ofFirst())
}

// P10.1: Range tells what the leaves have, as it is met, whatever keys stand above.
func TestKeysAboveThatDoNotFit(t *testing.T) {
	l := laidOn(t, 64)
	first, second, third := list{x(5, 0, 50), x(5, 2, 51)}, list{x(1, 0, 52), x(5, 2, 53), x(9, 0, 54)}, list{x(0, 0, 55)}
	l.node(2, leaf.Node{L: list{x(1, 0, 3), x(5, 1, 4), x(8, 0, 5)}})
	l.node(3, leaf.Node{Leaf: true, L: first})
	l.node(4, leaf.Node{Leaf: true, L: second})
	l.node(5, leaf.Node{L: list{x(0, 0, 6)}})
	l.node(6, leaf.Node{Leaf: true, L: third})
	r := l.rig(l.open(2))
	told := slices.Concat(first, second, third)
	keys := []leaf.Key{k(0, 0), k(0, 1), k(1, 0), k(1, 1), k(5, 0), k(5, 1), k(5, 2), k(5, 3), k(9, 0), k(9, 1), k(15, 65535)}
	for _, from := range keys {
		for _, to := range keys {
			if got, e := r.x.Range(from, to); !slices.Equal(got, between(told, from, to)) || e != api.OK {
				t.Errorf("Range(%v, %v) = %v %d", from, to, got, e)
			}
		}
	}
	if got, e := r.x.Nodes(); !slices.Equal(got, []int{2, 3, 4, 5, 6}) || e != api.OK {
		t.Errorf("Nodes = %v %d", got, e)
	}
	// Going down goes by the keys above.
	for key, want := range map[leaf.Key]int{k(5, 0): 50, k(5, 2): 53, k(1, 0): 0, k(0, 0): 0, k(9, 0): 0} {
		if page, e := r.x.Get(key); page != want || (e == api.OK) != (want != 0) {
			t.Errorf("Get(%v) = %d %d, want %d", key, page, e, want)
		}
	}
	// Written anew, the keys above are the lowest ones below: where they wouldn't rise there is no such node, and nothing is changed.
	r.fail("no node", api.ErrSum, r.ofKey(k(5, 2))[1:])
	if had, e := r.x.Put(k(0, 5), 70); had != 0 || e != api.OK {
		t.Errorf("Put = %d %d", had, e)
	}
	if n := nodeAt(t, l.d, r.x.Root()); n.L[0].Key != k(0, 5) || n.L[1].Key != k(5, 1) {
		t.Errorf("above stands %v", n)
	}
}

// P10.2: a leaf without entries, as none that was put would be: it may have one put.
func TestLeafWithoutEntries(t *testing.T) {
	l := laidOn(t, 64)
	l.node(2, leaf.Node{Leaf: true})
	r := l.rig(l.open(2))
	r.fail("nothing there", api.ErrNone, r.ofKey(k(1, 5))[2:], r.ofKey(k(1, 5))[:1])
	if got, e := r.x.Nodes(); !slices.Equal(got, []int{2}) || e != api.OK {
		t.Errorf("Nodes = %v %d", got, e)
	}
	if had, e := r.x.Put(k(1, 5), 9); had != 0 || e != api.OK {
		t.Errorf("Put = %d %d", had, e)
	}
	r.root = &branch{leaf: true, l: list{x(1, 5, 9)}}
	r.free = map[int]struct{}{r.x.Root(): {}}
	r.agree()
}

// full: a chain of so many nodes of sixteen entries each, the way to the key 9 0 leading through the last ones.
func full(t *testing.T, n int) *laid {
	t.Helper()
	l := laidOn(t, 128)
	for i := range n {
		var some list
		for j := range 15 {
			some = append(some, x(1+i, j, 100))
		}
		some = append(some, x(9, 0, 3+i))
		l.node(2+i, leaf.Node{Leaf: i == n-1, L: some})
	}
	l.node(100, leaf.Node{Leaf: true})
	return l
}

// P10.2, P10.4: a tree of eight full nodes on a way can't have one more above: ErrFull, and it is as it was; one of seven can.
func TestNoNinthLevel(t *testing.T) {
	l := full(t, 7)
	r := l.rig(l.open(2))
	if had, e := r.x.Put(k(9, 1), 5); had != 0 || e != api.OK {
		t.Fatalf("Put = %d %d", had, e)
	}
	if page, e := r.x.Get(k(9, 1)); page != 5 || e != api.OK {
		t.Errorf("Get = %d %d", page, e)
	}
	// The leaf's halves, two of each of the six above, and a new root.
	if _, shadow, pending := l.a.Sets(); shadow.Count() != 15 || pending.Count() != 7 {
		t.Errorf("%d are taken, %d given", shadow.Count(), pending.Count())
	}
	l = full(t, 8)
	r = l.rig(l.open(2))
	r.unchanged("one more level", func() (int, api.Errno) { return r.x.Put(k(9, 1), 5) }, api.ErrFull)
	if page, e := r.x.Get(k(9, 0)); page != 10 || e != api.OK {
		t.Errorf("Get = %d %d", page, e)
	}
	if had, e := r.x.Put(k(9, 0), 5); had != 10 || e != api.OK {
		t.Errorf("Put of a key that is there = %d %d", had, e)
	}
}

// P10.2: pages that the allocator doesn't have as taken can't be given: the change is made all the same.
func TestPagesThatAreNotTaken(t *testing.T) {
	l := laidOn(t, 64)
	l.node(40, leaf.Node{L: list{x(1, 0, 41), x(2, 0, 42)}})
	l.node(41, leaf.Node{Leaf: true, L: list{x(1, 0, 50)}})
	l.node(42, leaf.Node{Leaf: true, L: list{x(2, 0, 51)}})
	l.a, _ = alloc.New(64, 41)
	x := l.open(40)
	if had, e := x.Put(k(1, 1), 60); had != 0 || e != api.OK {
		t.Errorf("Put = %d %d", had, e)
	}
	if l.a.Kind(41) != alloc.Pending || l.a.Kind(40) != alloc.Free || l.a.Kind(x.Root()) != alloc.Shadow {
		t.Errorf("41 is %d, 40 is %d, the root is %d", l.a.Kind(41), l.a.Kind(40), l.a.Kind(x.Root()))
	}
	if got, e := x.Range(k(0, 0), k(15, 0)); len(got) != 3 || e != api.OK {
		t.Errorf("Range = %v %d", got, e)
	}
	// A tree that stands on the very page that is taken.
	l.a, _ = alloc.New(64)
	l.node(2, leaf.Node{Leaf: true})
	l.a, _ = alloc.New(64)
	x = l.open(2)
	x.Put(k(1, 5), 9)
	if x.Root() != 2 || l.a.Kind(2) != alloc.Shadow {
		t.Errorf("Root %d is %d", x.Root(), l.a.Kind(x.Root()))
	}
}
