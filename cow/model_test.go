package cow_test

import (
	"slices"
	"testing"

	"incipit/alloc"
	"incipit/api"
	"incipit/cow"
	"incipit/device"
	"incipit/frame"
	"incipit/leaf"
)

type list = []leaf.Entry

// k: a key.
func k(section, no int) leaf.Key { return leaf.Key{Section: section, No: no} }

// x: an entry.
func x(section, no, page int) leaf.Entry { return leaf.Entry{Key: k(section, no), Page: page} }

// dice tells numbers of no simple order, the same ones for the same seed.
type dice uint32

func (d *dice) below(n int) int {
	*d = *d*1664525 + 1013904223
	return int(*d>>8) % n
}

// less goes as the words of layer 9 say it.
func less(a, b leaf.Key) bool {
	return a.Section < b.Section || a.Section == b.Section && a.No < b.No
}

// branch is a node of the model: it is never changed, but that it has a page
// and an epoch once it has been seen on the device.
type branch struct {
	leaf        bool
	l           list
	kids        []*branch
	page, epoch int
}

func lowest(b *branch) leaf.Key {
	for !b.leaf {
		b = b.kids[0]
	}
	return b.l[0].Key
}

// sown: the leaf's entries with one more, in order; which page its key had.
func sown(l list, e leaf.Entry) (list, int) {
	var all list
	had, done := 0, false
	for _, o := range l {
		switch {
		case less(o.Key, e.Key):
		case less(e.Key, o.Key):
			if !done {
				all, done = append(all, e), true
			}
		default:
			had, o, done = o.Page, e, true
		}
		all = append(all, o)
	}
	if !done {
		all = append(all, e)
	}
	return all, had
}

// way: which of the kids has the key: the last one whose lowest isn't above it, or the first.
func way(b *branch, key leaf.Key) int {
	at := 0
	for i, kid := range b.kids {
		if !less(key, lowest(kid)) {
			at = i
		}
	}
	return at
}

// putBelow: what the branch (or nothing) comes to with an entry, one or two; the page that its key had.
func putBelow(b *branch, e leaf.Entry) ([]*branch, int) {
	switch {
	case b == nil:
		return []*branch{{leaf: true, l: list{e}}}, 0
	case b.leaf:
		all, had := sown(b.l, e)
		if len(all) <= 16 {
			return []*branch{{leaf: true, l: all}}, had
		}
		// Split ahead of that: 8 and 8.
		first, second := b.l[:8], b.l[8:]
		if less(e.Key, second[0].Key) {
			first, _ = sown(first, e)
		} else {
			second, _ = sown(second, e)
		}
		return []*branch{{leaf: true, l: first}, {leaf: true, l: second}}, 0
	}
	at := way(b, e.Key)
	below, had := putBelow(b.kids[at], e)
	kids := slices.Concat(b.kids[:at], below, b.kids[at+1:])
	if len(kids) == 17 {
		return []*branch{{kids: kids[:8]}, {kids: kids[8:]}}, had
	}
	return []*branch{{kids: kids}}, had
}

// dropBelow: what the branch comes to without a key; nil for nothing.
func dropBelow(b *branch, key leaf.Key) *branch {
	if b.leaf {
		var l list
		for _, e := range b.l {
			if e.Key != key {
				l = append(l, e)
			}
		}
		if len(l) == 0 {
			return nil
		}
		return &branch{leaf: true, l: l}
	}
	at := way(b, key)
	var kids []*branch
	for i, kid := range b.kids {
		if i == at {
			kid = dropBelow(kid, key)
		}
		if kid != nil {
			kids = append(kids, kid)
		}
	}
	if len(kids) == 0 {
		return nil
	}
	return &branch{kids: kids}
}

// topped: the root, which isn't a branch with one kid alone.
func topped(b *branch) *branch {
	for b != nil && !b.leaf && len(b.kids) == 1 {
		b = b.kids[0]
	}
	return b
}

// put: the root with an entry, and the page that its key had.
func put(root *branch, e leaf.Entry) (*branch, int) {
	l, had := putBelow(root, e)
	if len(l) == 2 {
		return &branch{kids: l}, had
	}
	return topped(l[0]), had
}

// drop: the root without a key, which is there.
func drop(root *branch, key leaf.Key) *branch { return topped(dropBelow(root, key)) }

// all: the branches, each ahead of those below it, from the left to the right.
func all(root *branch) []*branch {
	if root == nil {
		return nil
	}
	l := []*branch{root}
	for _, kid := range root.kids {
		l = append(l, all(kid)...)
	}
	return l
}

// entries: those of all leaves.
func entries(root *branch) list {
	var l list
	for _, b := range all(root) {
		l = append(l, b.l...)
	}
	return l
}

// fresh: how many branches haven't been written.
func fresh(root *branch) int {
	n := 0
	for _, b := range all(root) {
		if b.page == 0 {
			n++
		}
	}
	return n
}

func depth(root *branch) int {
	switch {
	case root == nil:
		return 0
	case root.leaf:
		return 1
	}
	return 1 + depth(root.kids[0])
}

// rig is a tree and its model, which go the same way.
type rig struct {
	t     *testing.T
	d     *device.Device
	a     *alloc.Alloc
	x     *cow.Tree
	epoch int
	root  *branch
	// free is which pages were free ahead of a change: only these may be written.
	free map[int]struct{}
	// tight: each change is tried with too few pages first, and with power that goes.
	tight bool
	// seldom: all nodes are compared behind each so many-th change; what is new behind each one.
	seldom, done int
}

// begun: an empty tree of epoch 7.
func begun(t *testing.T, pages int) *rig {
	t.Helper()
	d, e := device.New(pages)
	a, f := alloc.New(pages)
	if e != api.OK || f != api.OK {
		t.Fatal(e, f)
	}
	r := &rig{t: t, d: d, a: a, epoch: 7}
	r.open(0)
	return r
}

// opened: a tree that Open must answer.
func opened(t *testing.T, d *device.Device, a *alloc.Alloc, root, epoch int) *cow.Tree {
	t.Helper()
	x, e := cow.Open(d, a, root, epoch)
	if e != api.OK || x == nil {
		t.Fatalf("Open of %d, %d: %v %d", root, epoch, x, e)
	}
	return x
}

func (r *rig) open(root int) { r.x = opened(r.t, r.d, r.a, root, r.epoch) }

// notice: which pages are free now.
func (r *rig) notice() {
	r.free = map[int]struct{}{}
	for page := range r.a.Pages() {
		if r.a.Kind(page) == alloc.Free {
			r.free[page] = struct{}{}
		}
	}
}

// put: a key is put into both.
func (r *rig) put(key leaf.Key, page int) {
	r.t.Helper()
	next, had := put(r.root, leaf.Entry{Key: key, Page: page})
	r.change(next, had, func() (int, api.Errno) { return r.x.Put(key, page) })
}

// drop: a key, which is there, is dropped from both.
func (r *rig) drop(key leaf.Key) {
	r.t.Helper()
	had := 0
	for _, e := range entries(r.root) {
		if e.Key == key {
			had = e.Page
		}
	}
	r.change(drop(r.root, key), had, func() (int, api.Errno) { return r.x.Drop(key) })
}

// change: a call changes the tree as the model, with just as many writes as there are new nodes.
func (r *rig) change(next *branch, had int, call func() (int, api.Errno)) {
	r.t.Helper()
	need := fresh(next)
	var hog []int
	if r.tight {
		r.tooFew(need, call)
		r.powerGoes(need, call)
		// Just so many pages are enough, too.
		hog = r.leave(need)
	}
	r.notice()
	_, writes, syncs := r.d.Counts()
	if got, e := call(); got != had || e != api.OK {
		r.t.Fatalf("the change: %d %d, want %d", got, e, had)
	}
	r.d.Arm(-1)
	r.back(hog)
	if _, w, s := r.d.Counts(); w != writes+need || s != syncs {
		r.t.Fatalf("%d writes, %d syncs, want %d, 0", w-writes, s-syncs, need)
	}
	r.root = next
	if r.done++; r.seldom == 0 || r.done%r.seldom == 0 {
		r.agree()
	} else if r.root != nil {
		r.sameNode(r.root, r.x.Root(), false)
	}
}

// agree: the tree is the model's, node by node, and its pages are those that are taken.
func (r *rig) agree() {
	r.t.Helper()
	var pages []int
	if r.root == nil {
		if r.x.Root() != 0 {
			r.t.Fatalf("Root = %d of no entries", r.x.Root())
		}
	} else {
		pages = r.sameNode(r.root, r.x.Root(), true)
	}
	if l, e := r.x.Nodes(); !slices.Equal(l, pages) || e != api.OK {
		r.t.Fatalf("Nodes = %v %d, want %v", l, e, pages)
	}
	if n, e := r.x.Depth(); n != depth(r.root) || e != api.OK {
		r.t.Fatalf("Depth = %d %d, want %d", n, e, depth(r.root))
	}
	slices.Sort(pages)
	if taken := r.taken(); !slices.Equal(taken, pages) {
		r.t.Fatalf("taken are %v, the nodes' pages are %v", taken, pages)
	}
	want := entries(r.root)
	if len(want) > 0 && want[len(want)-1].Key == k(15, 65535) {
		want = want[:len(want)-1] // no bound is above it
	}
	if l, e := r.x.Range(k(0, 0), k(15, 65535)); !slices.Equal(l, want) || e != api.OK {
		r.t.Fatalf("Range = %v %d, want %v", l, e, want)
	}
}

// taken: the pages that are shadow, or committed and not pending.
func (r *rig) taken() []int {
	var l []int
	for page := range r.a.Pages() {
		if kind := r.a.Kind(page); kind == alloc.Committed || kind == alloc.Shadow {
			l = append(l, page)
		}
	}
	return l
}

// sameNode: on the page stands what the branch is, in a frame of the right epoch, and so on below;
// the pages of all these. Of what was seen before only the page is asked, if it needn't be deep.
func (r *rig) sameNode(b *branch, page int, deep bool) []int {
	r.t.Helper()
	if b.page != 0 && !deep {
		if b.page != page {
			r.t.Fatalf("page %d, want %d, as nothing below was changed", page, b.page)
		}
		return nil
	}
	f, e := frame.Read(r.d, page, 2)
	if e != api.OK {
		r.t.Fatalf("page %d is no node's frame: %d", page, e)
	}
	n, e := leaf.Decode(f.Body)
	if e != api.OK {
		r.t.Fatalf("page %d has no node: %d", page, e)
	}
	if b.page == 0 {
		b.page, b.epoch = page, r.epoch
		if _, ok := r.free[page]; !ok {
			r.t.Fatalf("page %d was written, and it wasn't free", page)
		}
	}
	if b.page != page || b.epoch != f.Epoch {
		r.t.Fatalf("page %d of epoch %d, want %d of %d", page, f.Epoch, b.page, b.epoch)
	}
	pages := []int{page}
	var want list
	for i, kid := range b.kids {
		if i >= len(n.L) {
			break
		}
		want = append(want, leaf.Entry{Key: lowest(kid), Page: n.L[i].Page})
		pages = append(pages, r.sameNode(kid, n.L[i].Page, deep)...)
	}
	if b.leaf {
		want = b.l
	}
	if n.Leaf != b.leaf || !slices.Equal(n.L, want) || len(n.L) != len(b.kids)+len(b.l) {
		r.t.Fatalf("page %d has %v, want leaf %v, %v", page, n, b.leaf, want)
	}
	return pages
}

// unchanged: behind a call that failed the tree and what is free are as they were.
func (r *rig) unchanged(what string, call func() (int, api.Errno), want api.Errno) {
	r.t.Helper()
	root := r.x.Root()
	c, s, p := r.a.Sets()
	before := [][]int{c.All(), s.All(), p.All()}
	if got, e := call(); got != 0 || e != want {
		r.t.Fatalf("%s: %d %d, want %d", what, got, e, want)
	}
	c, s, p = r.a.Sets()
	if !slices.EqualFunc(before, [][]int{c.All(), s.All(), p.All()}, slices.Equal) || r.x.Root() != root {
		r.t.Fatalf("%s has changed what is free, or the root", what)
	}
}

// tooFew: with each number of free pages that is too few it is ErrFull, be there power for a write or not.
func (r *rig) tooFew(need int, call func() (int, api.Errno)) {
	r.t.Helper()
	for few := range need {
		hog := r.leave(few)
		r.d.Arm(few % 2 * 100)
		r.unchanged("too few pages", call, api.ErrFull)
		r.d.Arm(-1)
		r.back(hog)
		r.agree()
	}
}

// leave: all pages but so many are taken, till they are given back.
func (r *rig) leave(n int) []int {
	r.t.Helper()
	hog, e := r.a.Take(r.a.Free() - n)
	if e != api.OK {
		r.t.Fatal(e)
	}
	return hog
}

func (r *rig) back(hog []int) {
	r.t.Helper()
	if e := r.a.Give(hog...); e != api.OK {
		r.t.Fatal(e)
	}
}

// powerGoes: at each write of a change it is ErrDown, and what is in memory is as it was.
func (r *rig) powerGoes(need int, call func() (int, api.Errno)) {
	r.t.Helper()
	for left := range need {
		if e := r.d.Sync(); e != api.OK {
			r.t.Fatal(e)
		}
		r.d.Arm(left)
		r.unchanged("power goes", call, api.ErrDown)
		if r.d.On() {
			r.t.Fatal("there were writes left")
		}
		if left == 0 {
			r.isDown()
		}
		r.d.Power()
		r.agree()
	}
	// Just so many are enough, be it none.
	if e := r.d.Sync(); e != api.OK {
		r.t.Fatal(e)
	}
	r.d.Arm(need)
}

// isDown: all calls that read tell it.
func (r *rig) isDown() {
	r.t.Helper()
	if l, e := r.x.Nodes(); l != nil || e != api.ErrDown {
		r.t.Errorf("off: Nodes = %v %d", l, e)
	}
	if l, e := r.x.Range(k(0, 0), k(1, 0)); l != nil || e != api.ErrDown {
		r.t.Errorf("off: Range = %v %d", l, e)
	}
	if n, e := r.x.Depth(); n != 0 || e != api.ErrDown {
		r.t.Errorf("off: Depth = %d %d", n, e)
	}
	r.unchanged("off: Put", func() (int, api.Errno) { return r.x.Put(k(1, 1), 5) }, api.ErrDown)
	want := api.ErrDown
	if r.root == nil {
		want = api.ErrNone // what has no entries needn't be read
	}
	r.unchanged("off: Get", func() (int, api.Errno) { return r.x.Get(k(1, 1)) }, want)
	r.unchanged("off: Drop", func() (int, api.Errno) { return r.x.Drop(k(1, 1)) }, want)
}
