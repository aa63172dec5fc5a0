package cow_test

import (
	"math"
	"slices"
	"testing"

	"incipit/alloc"
	"incipit/api"
	"incipit/cow"
	"incipit/device"
	"incipit/frame"
	"incipit/leaf"
)

// far is numbers far from all keys, pages and epochs; the low bits of some of them alone would be one.
func far() []int {
	return []int{math.MinInt, math.MinInt + 5, 5 - 1<<32, -65536, -2048, 1<<32 + 5, 1<<62 + 5, math.MaxInt - 1, math.MaxInt}
}

// wrongKeys: a section, a number, or both beyond their limits.
func wrongKeys() []leaf.Key {
	l := []leaf.Key{k(-1, 0), k(16, 0), k(0, -1), k(0, 65536), k(-1, 65535), k(16, 5), k(15, 65536), k(15, -1), k(16, 65536), k(-1, -1)}
	for _, n := range far() {
		l = append(l, k(n, 5), k(5, n), k(n, n))
	}
	return l
}

// nodeAt: the node that stands on a page.
func nodeAt(t *testing.T, d *device.Device, page int) leaf.Node {
	t.Helper()
	f, e := frame.Read(d, page, 2)
	if e != api.OK {
		t.Fatalf("page %d: %d", page, e)
	}
	n, e := leaf.Decode(f.Body)
	if e != api.OK {
		t.Fatalf("page %d: %d", page, e)
	}
	return n
}

// P10.1: a device and an allocator, a root that may be one, an epoch that may be one; the errors in their order.
func TestOpen(t *testing.T) {
	d, _ := device.New(16)
	a, _ := alloc.New(16)
	if cow.Kind != 2 || cow.Deepest != 8 {
		t.Errorf("Kind %d, Deepest %d", cow.Kind, cow.Deepest)
	}
	roots := map[int]api.Errno{0: api.OK, 1: api.ErrRange, 2: api.OK, 15: api.OK, 16: api.OK, 2047: api.OK, 2048: api.ErrRange, -1: api.ErrRange, -2: api.ErrRange}
	epochs := map[int]api.Errno{0: api.ErrRange, 1: api.OK, 2: api.OK, 1<<32 - 1: api.OK, 1 << 32: api.ErrRange, 1<<32 + 1: api.ErrRange, -1: api.ErrRange}
	for _, n := range far() {
		roots[n], epochs[n] = api.ErrRange, api.ErrRange
	}
	for root, e := range roots {
		for epoch, f := range epochs {
			want := max(e, f)
			x, got := cow.Open(d, a, root, epoch)
			if got != want || (x == nil) == (want == api.OK) {
				t.Errorf("Open of %d, %d: %v %d, want %d", root, epoch, x, got, want)
			}
			if want == api.OK && x.Root() != root {
				t.Errorf("Open of %d: Root = %d", root, x.Root())
			}
			for _, none := range []func() (*cow.Tree, api.Errno){
				func() (*cow.Tree, api.Errno) { return cow.Open(nil, a, root, epoch) },
				func() (*cow.Tree, api.Errno) { return cow.Open(d, nil, root, epoch) },
				func() (*cow.Tree, api.Errno) { return cow.Open(nil, nil, root, epoch) },
			} {
				if x, e := none(); x != nil || e != api.ErrState {
					t.Errorf("Open of none, %d, %d: %v %d, want ErrState", root, epoch, x, e)
				}
			}
		}
	}
}

// P10.1: Open asks nothing of the device, be it on or off.
func TestOpenReadsNothing(t *testing.T) {
	d, _ := device.New(16)
	a, _ := alloc.New(16)
	d.Crash()
	for _, root := range []int{0, 5, 2000} {
		if x := opened(t, d, a, root, 1); x.Root() != root {
			t.Errorf("Root = %d, want %d", x.Root(), root)
		}
	}
	if r, w, s := d.Counts(); r+w+s != 0 || a.Free() != 14 {
		t.Errorf("%d reads, %d writes, %d syncs, %d free", r, w, s, a.Free())
	}
}

// P10.4, P1: a nil tree, and one that nobody opened: ErrState, whatever is asked.
func TestNilTree(t *testing.T) {
	for _, x := range []*cow.Tree{nil, {}} {
		for _, key := range append(wrongKeys(), k(0, 0), k(15, 65535)) {
			for _, page := range []int{-1, 0, 1, 2, 2047, 2048} {
				if had, e := x.Put(key, page); had != 0 || e != api.ErrState {
					t.Errorf("Put(%v, %d) = %d %d", key, page, had, e)
				}
			}
			if page, e := x.Get(key); page != 0 || e != api.ErrState {
				t.Errorf("Get(%v) = %d %d", key, page, e)
			}
			if page, e := x.Drop(key); page != 0 || e != api.ErrState {
				t.Errorf("Drop(%v) = %d %d", key, page, e)
			}
			if l, e := x.Range(key, k(1, 0)); l != nil || e != api.ErrState {
				t.Errorf("Range(%v..) = %v %d", key, l, e)
			}
			if l, e := x.Range(k(1, 0), key); l != nil || e != api.ErrState {
				t.Errorf("Range(.., %v) = %v %d", key, l, e)
			}
		}
		if l, e := x.Nodes(); l != nil || e != api.ErrState {
			t.Errorf("Nodes = %v %d", l, e)
		}
		if n, e := x.Depth(); n != 0 || e != api.ErrState {
			t.Errorf("Depth = %d %d", n, e)
		}
		if x.Root() != 0 {
			t.Errorf("Root = %d", x.Root())
		}
	}
}

// P10.1, P10.2: what isn't a key or a page is ErrRange, ahead of all that the tree or the device would tell.
func TestWrongKeys(t *testing.T) {
	r := begun(t, 64)
	r.put(k(1, 5), 9)
	hog := func() {
		if _, e := r.a.Take(r.a.Free()); e != api.OK {
			t.Fatal(e)
		}
	}
	for _, to := range []func(){func() {}, hog, func() { r.d.Crash() }} {
		to()
		for _, key := range wrongKeys() {
			r.unchanged("Get", func() (int, api.Errno) { return r.x.Get(key) }, api.ErrRange)
			r.unchanged("Put", func() (int, api.Errno) { return r.x.Put(key, 5) }, api.ErrRange)
			r.unchanged("Drop", func() (int, api.Errno) { return r.x.Drop(key) }, api.ErrRange)
			for _, bounds := range [][2]leaf.Key{{key, k(1, 0)}, {k(1, 0), key}, {key, key}, {k(0, 0), key}, {key, k(15, 65535)}} {
				if l, e := r.x.Range(bounds[0], bounds[1]); l != nil || e != api.ErrRange {
					t.Errorf("Range(%v) = %v %d", bounds, l, e)
				}
			}
		}
		for _, page := range append(far(), -1, 0, 1, 2048) {
			r.unchanged("Put of no page", func() (int, api.Errno) { return r.x.Put(k(1, 5), page) }, api.ErrRange)
			r.unchanged("Put of nothing right", func() (int, api.Errno) { return r.x.Put(k(16, 5), page) }, api.ErrRange)
		}
	}
}

// P10.1, P10.3: a tree without entries.
func TestEmpty(t *testing.T) {
	r := begun(t, 16)
	r.agree()
	for _, key := range []leaf.Key{k(0, 0), k(1, 5), k(15, 65535)} {
		if page, e := r.x.Get(key); page != 0 || e != api.ErrNone {
			t.Errorf("Get(%v) = %d %d", key, page, e)
		}
		r.unchanged("Drop of none", func() (int, api.Errno) { return r.x.Drop(key) }, api.ErrNone)
	}
	if n, e := r.x.Depth(); n != 0 || e != api.OK || r.x.Root() != 0 {
		t.Errorf("Depth = %d %d, Root = %d", n, e, r.x.Root())
	}
	if l, e := r.x.Range(k(0, 0), k(15, 65535)); len(l) != 0 || e != api.OK {
		t.Errorf("Range = %v %d", l, e)
	}
	if reads, writes, syncs := r.d.Counts(); reads+writes+syncs != 0 {
		t.Errorf("%d reads, %d writes, %d syncs of nothing", reads, writes, syncs)
	}
	r.d.Crash()
	r.isDown()
}

// P10.1: Get of keys that are there, between, below all and above all, in trees of one to three levels.
func TestGet(t *testing.T) {
	for _, n := range []int{1, 2, 16, 17, 100, 400} {
		r := begun(t, 256)
		for i := range n {
			r.put(k(2+i/300, 3*(i%300)+1), 2+i)
		}
		for i := range n {
			s, no := 2+i/300, 3*(i%300)+1
			if page, e := r.x.Get(k(s, no)); page != 2+i || e != api.OK {
				t.Errorf("%d keys: Get(%d %d) = %d %d", n, s, no, page, e)
			}
			for _, key := range []leaf.Key{k(s, no-1), k(s, no+1), k(s-2, no), k(s+2, no)} {
				if page, e := r.x.Get(key); page != 0 || e != api.ErrNone {
					t.Errorf("%d keys: Get(%v) = %d %d", n, key, page, e)
				}
			}
		}
		for _, key := range []leaf.Key{k(0, 0), k(1, 65535), k(2, 0), k(15, 65535)} {
			if page, e := r.x.Get(key); page != 0 || e != api.ErrNone {
				t.Errorf("%d keys: Get(%v) = %d %d", n, key, page, e)
			}
		}
	}
}

// between: the entries from a key up to another one.
func between(l list, from, to leaf.Key) list {
	var some list
	for _, e := range l {
		if !less(e.Key, from) && less(e.Key, to) {
			some = append(some, e)
		}
	}
	return some
}

// P10.1: Range of all, of none, of bounds that are there and that aren't, and of the limits.
func TestRange(t *testing.T) {
	for _, n := range []int{1, 16, 17, 40, 200} {
		r := begun(t, 256)
		r.put(k(0, 0), 2)
		r.put(k(15, 65535), 3)
		bounds := []leaf.Key{k(0, 0), k(0, 1), k(1, 0), k(7, 0), k(15, 65534), k(15, 65535)}
		for i := range n {
			key := k(1+i%14, 5*i+1)
			r.put(key, 2+i)
			if i%7 == 0 {
				bounds = append(bounds, key, k(key.Section, key.No-1), k(key.Section, key.No+1))
			}
		}
		told := entries(r.root)
		for _, from := range bounds {
			for _, to := range bounds {
				want := between(told, from, to)
				if l, e := r.x.Range(from, to); !slices.Equal(l, want) || e != api.OK {
					t.Fatalf("Range(%v, %v) = %v %d, want %v", from, to, l, e, want)
				}
				if !less(from, to) && len(want) > 0 {
					t.Fatal("the model has entries between nothing")
				}
			}
		}
		if l, _ := r.x.Range(k(0, 0), k(15, 65535)); len(l) != n+1 {
			t.Errorf("all but the last one are %d, want %d", len(l), n+1)
		}
	}
}

// P10.3: the order of Nodes in trees of one, two and three levels, by name.
func TestNodesInOrder(t *testing.T) {
	r := begun(t, 256)
	for i := 0; depth(r.root) < 3; i++ {
		r.put(k(0, i), 9)
		l, e := r.x.Nodes()
		if e != api.OK || l[0] != r.x.Root() {
			t.Fatalf("Nodes = %v %d, Root = %d", l, e, r.x.Root())
		}
		if depth(r.root) == 2 {
			var want []int
			for _, y := range nodeAt(t, r.d, l[0]).L {
				want = append(want, y.Page)
			}
			if !slices.Equal(l[1:], want) {
				t.Fatalf("below the root: %v, want %v", l[1:], want)
			}
		}
	}
	l, _ := r.x.Nodes()
	want := []int{r.x.Root()}
	for _, y := range nodeAt(t, r.d, r.x.Root()).L {
		want = append(want, y.Page)
		for _, z := range nodeAt(t, r.d, y.Page).L {
			want = append(want, z.Page)
		}
	}
	if !slices.Equal(l, want) {
		t.Errorf("Nodes = %v, want %v", l, want)
	}
}

// P10.1, P10.3: what only tells writes nothing, and changes nothing.
func TestTellingChangesNothing(t *testing.T) {
	r := begun(t, 256)
	for i := range 100 {
		r.put(k(0, i), 9)
	}
	if e := r.d.Sync(); e != api.OK {
		t.Fatal(e)
	}
	image := r.d.Image()
	_, writes, syncs := r.d.Counts()
	root, free := r.x.Root(), r.a.Free()
	for i := range 200 {
		r.x.Get(k(0, i))
		r.x.Range(k(0, i), k(1, 0))
	}
	r.x.Nodes()
	r.x.Depth()
	if _, w, s := r.d.Counts(); w != writes || s != syncs || !slices.Equal(r.d.Image(), image) {
		t.Error("something was written")
	}
	if r.x.Root() != root || r.a.Free() != free {
		t.Error("the tree, or what is free, is another one")
	}
}

// P1: answers are new memory: what is done to them changes nothing.
func TestAnswersAreNewMemory(t *testing.T) {
	r := begun(t, 64)
	for i := range 40 {
		r.put(k(0, i), 9)
	}
	for range 2 {
		l, _ := r.x.Range(k(0, 0), k(1, 0))
		clear(l[:cap(l)])
		n, _ := r.x.Nodes()
		clear(n[:cap(n)])
		r.agree()
	}
}

// P10.2: a device may have fewer pages than the allocator: those that it hasn't are missing.
func TestSmallDevice(t *testing.T) {
	d, _ := device.New(5)
	a, _ := alloc.New(64)
	r := &rig{t: t, d: d, a: a, epoch: 1}
	r.open(0)
	for i := range 16 {
		r.put(k(0, i), 60)
	}
	if e := d.Sync(); e != api.OK {
		t.Fatal(e)
	}
	put := func() (int, api.Errno) { return r.x.Put(k(0, 16), 60) }
	for _, left := range []int{100, 0} {
		// Three pages are taken, of which the device has two at most.
		r.d.Arm(left)
		r.unchanged("a page too few", put, api.ErrFull)
	}
	r.d.Arm(-1)
	r.agree()
}
