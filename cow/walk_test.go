package cow_test

import (
	"bytes"
	"slices"
	"testing"

	"incipit/api"
	"incipit/cow"
	"incipit/leaf"
)

// stood is what was committed: where, what it told, and the bytes of its pages.
type stood struct {
	root  int
	model *branch
	bytes map[int][]byte
}

// walk is a tree that goes with a plain list of entries through commits and aborts.
type walk struct {
	*rig
	dice  dice
	plain list
	was   stood
	old   list
	told  []int
}

func walked(t *testing.T, seed, pages int) *walk {
	w := &walk{rig: begun(t, pages), dice: dice(seed)}
	w.seldom = 25
	return w
}

// key: one of few sections and numbers, so that many are met again.
func (w *walk) key() leaf.Key { return k(w.dice.below(4), w.dice.below(90)) }

// place: where a key is in the plain list, or would be.
func (w *walk) place(key leaf.Key) (int, bool) {
	for i, e := range w.plain {
		if !less(e.Key, key) {
			return i, e.Key == key
		}
	}
	return len(w.plain), false
}

// step: a put or a drop, more puts in some times and more drops in others.
func (w *walk) step(puts int) {
	w.t.Helper()
	key := w.key()
	i, there := w.place(key)
	switch {
	case w.dice.below(10) < puts:
		page := 2 + w.dice.below(2046)
		w.put(key, page)
		if there {
			w.plain[i].Page = page
		} else {
			w.plain = slices.Insert(w.plain, i, leaf.Entry{Key: key, Page: page})
		}
	case there:
		w.drop(key)
		w.plain = slices.Delete(w.plain, i, i+1)
	default:
		w.unchanged("Drop of none", func() (int, api.Errno) { return w.x.Drop(key) }, api.ErrNone)
	}
	page, e := w.x.Get(key)
	if i, there := w.place(key); there != (e == api.OK) || there && page != w.plain[i].Page {
		w.t.Fatalf("Get(%v) = %d %d", key, page, e)
	}
	w.told = append(w.told, page, int(e), w.x.Root(), w.a.Free())
}

// plainly: the tree tells what the plain list does, between any two keys.
func (w *walk) plainly() {
	w.t.Helper()
	for range 5 {
		from, to := w.key(), w.key()
		if l, e := w.x.Range(from, to); !slices.Equal(l, between(w.plain, from, to)) || e != api.OK {
			w.t.Fatalf("Range(%v, %v) = %v %d", from, to, l, e)
		}
	}
	if l, e := w.x.Range(k(0, 0), k(15, 65535)); !slices.Equal(l, w.plain) || e != api.OK {
		w.t.Fatalf("Range = %v %d, want %v", l, e, w.plain)
	}
}

// commit: what is there is committed, and the next epoch begins.
func (w *walk) commit() {
	w.t.Helper()
	if e := w.d.Sync(); e != api.OK {
		w.t.Fatal(e)
	}
	w.a.Commit()
	w.agree()
	w.was = stood{root: w.x.Root(), model: w.root, bytes: map[int][]byte{}}
	w.old = slices.Clone(w.plain)
	for _, page := range w.taken() {
		w.was.bytes[page], _ = w.d.Read(page)
	}
	w.epoch++
	w.open(w.was.root)
}

// abort: what was committed is there again.
func (w *walk) abort() {
	w.t.Helper()
	w.a.Abort()
	w.root, w.plain = w.was.model, slices.Clone(w.old)
	w.open(w.was.root)
	w.agree()
}

// stands: what was committed is where it was, page by page, and a tree opened there tells what it told.
func (w *walk) stands() {
	w.t.Helper()
	for page, want := range w.was.bytes {
		if b, e := w.d.Read(page); !bytes.Equal(b, want) || e != api.OK {
			w.t.Fatalf("page %d was committed, and is another one: %d", page, e)
		}
	}
	y := opened(w.t, w.d, w.a, w.was.root, 1)
	if l, e := y.Range(k(0, 0), k(15, 65535)); !slices.Equal(l, w.old) || e != api.OK {
		w.t.Fatalf("what was committed tells %v %d, want %v", l, e, w.old)
	}
	if n, e := y.Depth(); n != depth(w.was.model) || e != api.OK {
		w.t.Fatalf("Depth of what was committed: %d %d", n, e)
	}
}

// run: some rounds of puts and drops, each committed or aborted.
func (w *walk) run(rounds int) {
	w.t.Helper()
	for range rounds {
		puts := []int{9, 7, 5, 3, 0}[w.dice.below(5)]
		for i := range w.dice.below(120) {
			w.step(puts)
			if i%30 == 0 {
				w.stands()
			}
		}
		w.plainly()
		w.stands()
		if w.dice.below(3) == 0 {
			w.abort()
		} else {
			w.commit()
		}
		w.plainly()
	}
}

// P10.4: what is put and dropped in any order is told as a plain list tells it, through commits and aborts; what was committed stays.
func TestWalks(t *testing.T) {
	for seed := range 8 {
		walked(t, seed, 300).run(12)
	}
}

// P10.4: power that goes anywhere, with no commit behind it: what was committed is there.
func TestCrashes(t *testing.T) {
	for seed := range 40 {
		w := walked(t, 100+seed, 300)
		for range 150 {
			w.step(8)
		}
		w.commit()
		w.d.Arm(w.dice.below(40))
		for w.d.On() {
			key := w.key()
			if w.dice.below(2) == 0 {
				w.x.Put(key, 5)
			} else {
				w.x.Drop(key)
			}
		}
		if w.dice.below(2) == 0 {
			w.d.Crash()
		}
		w.d.Power()
		w.stands()
		w.abort()
		w.plainly()
	}
}

// P2: the same calls have the same answers, and write the same bytes.
func TestTheSameAgain(t *testing.T) {
	run := func() *walk {
		w := walked(t, 77, 300)
		w.run(6)
		return w
	}
	a := run()
	for range 2 {
		b := run()
		if !slices.Equal(a.told, b.told) || !bytes.Equal(a.d.Image(), b.d.Image()) {
			t.Error("the same calls had other answers")
		}
	}
}

// P10.4: two trees of one device and one allocator don't touch each other.
func TestTwoTrees(t *testing.T) {
	one := begun(t, 256)
	other := &rig{t: t, d: one.d, a: one.a, epoch: 12}
	other.open(0)
	tell := func(x *cow.Tree) list {
		l, e := x.Range(k(0, 0), k(15, 65535))
		if e != api.OK {
			t.Fatal(e)
		}
		return l
	}
	var first, second list
	for i := range 150 {
		if _, e := one.x.Put(k(1, i), 9); e != api.OK {
			t.Fatal(e)
		}
		if _, e := other.x.Put(k(2, 149-i), 8); e != api.OK {
			t.Fatal(e)
		}
		first = append(first, x(1, i, 9))
		second = slices.Insert(second, 0, x(2, 149-i, 8))
		if !slices.Equal(tell(one.x), first) || !slices.Equal(tell(other.x), second) {
			t.Fatalf("%d: %v, %v", i, tell(one.x), tell(other.x))
		}
	}
	n, _ := one.x.Nodes()
	m, _ := other.x.Nodes()
	both := slices.Sorted(slices.Values(slices.Concat(n, m)))
	if !slices.Equal(both, one.taken()) {
		t.Errorf("taken are %v, the nodes' are %v", one.taken(), both)
	}
}
