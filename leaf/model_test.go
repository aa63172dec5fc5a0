package leaf_test

import (
	"math"
	"slices"
	"testing"

	"incipit/api"
	"incipit/leaf"
	"incipit/varint"
)

type list = []leaf.Entry

// k: a key.
func k(section, no int) leaf.Key { return leaf.Key{Section: section, No: no} }

// x: an entry.
func x(section, no, page int) leaf.Entry { return leaf.Entry{Key: k(section, no), Page: page} }

// both: a node of these entries as a leaf, and as none.
func both(l list) []leaf.Node { return []leaf.Node{{Leaf: true, L: l}, {L: l}} }

// far is numbers far from all keys and pages; the low bits of some of them alone would be one.
func far() []int {
	return []int{math.MinInt, math.MinInt + 5, 5 - 1<<32, -65536, -2048, -16, 1<<17 + 5, 1<<32 + 5, 1<<62 + 5, math.MaxInt - 1, math.MaxInt}
}

// rising: the first n of 17 entries, their numbers and pages at the edges of their bytes.
func rising(n int) list {
	return list{
		x(0, 0, 2), x(0, 1, 2047), x(0, 127, 127), x(0, 128, 128), x(0, 65535, 300), x(1, 0, 5),
		x(1, 16383, 16), x(2, 16384, 2046), x(3, 5, 9), x(7, 300, 77), x(7, 302, 1000), x(9, 65535, 3),
		x(12, 2, 1024), x(14, 40000, 129), x(15, 0, 255), x(15, 65533, 256), x(15, 65535, 2),
	}[:n:n]
}

// rights: entries that a node may have (one that is no leaf all but none).
func rights() []list {
	return []list{
		nil, {}, {x(0, 0, 2)}, {x(15, 65535, 2047)}, {x(1, 5, 9)},
		{x(0, 5, 9), x(1, 5, 9)}, {x(1, 5, 9), x(1, 6, 9)}, {x(1, 5, 9), x(2, 4, 9)}, {x(0, 65535, 2), x(15, 0, 2)},
		rising(2), rising(3), rising(4), rising(8), rising(13), rising(15), rising(16), rising(17)[1:],
	}
}

// faulty: nodes that are wrong in one way, by that.
func faulty() map[api.Errno][]leaf.Node {
	f := map[api.Errno][]leaf.Node{api.ErrForm: {{}, {L: list{}}}}
	add := func(e api.Errno, l list) { f[e] = append(f[e], both(l)...) }
	add(api.ErrLong, rising(17))
	for _, e := range wrongEntries() {
		add(api.ErrRange, list{e})
	}
	add(api.ErrRange, append(rising(14), x(15, 0, 2048)))
	add(api.ErrRange, append(rising(15), x(15, 65536, 2)))
	add(api.ErrRange, append(list{x(-1, 0, 2)}, rising(15)...))
	for _, l := range []list{{x(1, 5, 9), x(1, 5, 9)}, {x(1, 5, 9), x(1, 4, 9)}, {x(1, 5, 9), x(0, 6, 9)}, append(rising(15), x(15, 0, 3)), append(list{x(0, 0, 3)}, rising(15)...)} {
		add(api.ErrForm, l)
	}
	return f
}

// wrongEntries: such as are wrong in one way.
func wrongEntries() list {
	var l list
	for _, n := range append(far(), -1, 16) {
		l = append(l, x(n, 5, 9))
	}
	for _, n := range append(far(), -1, 65536) {
		l = append(l, x(1, n, 9))
	}
	for _, n := range append(far(), -1, 0, 1, 2048) {
		l = append(l, x(1, 5, n))
	}
	return l
}

// keys: what is asked for, be it a key or not.
func keys() []leaf.Key {
	l := []leaf.Key{k(0, 0), k(0, 1), k(0, 5), k(1, 0), k(1, 4), k(1, 5), k(1, 6), k(2, 0), k(15, 0), k(15, 65535), k(-1, 5), k(0, -1), k(16, 0), k(15, 65536)}
	for _, n := range far() {
		l = append(l, k(n, 5), k(1, n), k(n, n))
	}
	return l
}

// around: the keys of the entries, and those right ahead of each and behind it.
func around(l list) []leaf.Key {
	var all []leaf.Key
	for _, e := range l {
		s, n := e.Key.Section, e.Key.No
		all = append(all, k(s, n-1), k(s, n), k(s, n+1), k(s-1, 70000), k(s+1, -5))
	}
	return all
}

// everyList: all lists of up to n entries of few keys and pages.
func everyList(n int, do func(l list)) {
	var ones list
	for _, key := range []leaf.Key{k(0, 0), k(0, 1), k(1, 0), k(1, 65535), k(15, 7), k(-1, 0), k(16, 0), k(0, 65536)} {
		for _, page := range []int{1, 2, 2047, 2048} {
			ones = append(ones, leaf.Entry{Key: key, Page: page})
		}
	}
	var grow func(l list)
	grow = func(l list) {
		do(l)
		if len(l) == n {
			return
		}
		for _, e := range ones {
			grow(append(l[:len(l):len(l)], e))
		}
	}
	grow(nil)
}

// slowLess goes as the chapter's words say it: if its section is, or that is the same, and its number is.
func slowLess(a, b leaf.Key) bool {
	return a.Section < b.Section || a.Section == b.Section && a.No < b.No
}

func within(n, from, to int) bool { return from <= n && n <= to }

func slowRight(e leaf.Entry) bool {
	return within(e.Key.Section, 0, 15) && within(e.Key.No, 0, 65535) && within(e.Page, 2, 2047)
}

// slowRise: is every key less than each one behind it?
func slowRise(l list) bool {
	for i := range l {
		for j := range i {
			if !slowLess(l[j].Key, l[i].Key) {
				return false
			}
		}
	}
	return true
}

func slowCheck(n leaf.Node) api.Errno {
	if len(n.L) > 16 {
		return api.ErrLong
	}
	for _, e := range n.L {
		if !slowRight(e) {
			return api.ErrRange
		}
	}
	if !slowRise(n.L) || !n.Leaf && len(n.L) == 0 {
		return api.ErrForm
	}
	return api.OK
}

func slowSame(a, b leaf.Node) bool {
	if a.Leaf != b.Leaf || len(a.L) != len(b.L) {
		return false
	}
	for i, e := range a.L {
		f := b.L[i]
		if e.Key.Section != f.Key.Section || e.Key.No != f.Key.No || e.Page != f.Page {
			return false
		}
	}
	return true
}

// body: the bytes, be the node right or not.
func body(n leaf.Node) []byte {
	b := []byte{0, byte(len(n.L))}
	if n.Leaf {
		b[0] = 1
	}
	for _, e := range n.L {
		b = slices.Concat(b, varint.Put(e.Key.Section), varint.Put(e.Key.No), varint.Put(e.Page))
	}
	return b
}

// slowDecode takes what numbers there may be, and asks whether the body of a node of these is the same bytes.
func slowDecode(b []byte) (leaf.Node, api.Errno) {
	if len(b) < 2 {
		return leaf.Node{}, api.ErrForm
	}
	var numbers []int
	n, up := 0, 0
	for _, c := range b[2:] {
		n |= int(c&127) << up
		up += 7
		if c < 128 {
			numbers = append(numbers, n)
			n, up = 0, 0
		}
	}
	node := leaf.Node{Leaf: b[0] == 1}
	for ; len(numbers) >= 3; numbers = numbers[3:] {
		node.L = append(node.L, x(numbers[0], numbers[1], numbers[2]))
	}
	if slowCheck(node) != api.OK || !slices.Equal(body(node), b) {
		return leaf.Node{}, api.ErrForm
	}
	return node, api.OK
}

func slowFind(l list, key leaf.Key) (int, bool) {
	for i, e := range l {
		if !slowLess(e.Key, key) {
			return i, !slowLess(key, e.Key)
		}
	}
	return len(l), false
}

func slowChild(n leaf.Node, key leaf.Key) (int, api.Errno) {
	if n.Leaf {
		return 0, api.ErrState
	}
	if len(n.L) == 0 {
		return 0, api.ErrForm
	}
	last := 0
	for i, e := range n.L {
		if !slowLess(key, e.Key) {
			last = i
		}
	}
	return last, api.OK
}

// split: the entries whose keys are less than this one, those of this one, and those behind it.
func split(l list, key leaf.Key) (ahead, of, behind list) {
	for _, e := range l {
		switch {
		case slowLess(e.Key, key):
			ahead = append(ahead, e)
		case slowLess(key, e.Key):
			behind = append(behind, e)
		default:
			of = append(of, e)
		}
	}
	return ahead, of, behind
}

func slowWith(n leaf.Node, e leaf.Entry) (leaf.Node, api.Errno) {
	if wrong := slowCheck(n); wrong != api.OK {
		return leaf.Node{}, wrong
	}
	if !slowRight(e) {
		return leaf.Node{}, api.ErrRange
	}
	ahead, of, behind := split(n.L, e.Key)
	if len(n.L) == 16 && len(of) == 0 {
		return leaf.Node{}, api.ErrFull
	}
	return leaf.Node{Leaf: n.Leaf, L: slices.Concat(ahead, list{e}, behind)}, api.OK
}

func slowWithout(n leaf.Node, key leaf.Key) (leaf.Node, api.Errno) {
	if wrong := slowCheck(n); wrong != api.OK {
		return leaf.Node{}, wrong
	}
	ahead, of, behind := split(n.L, key)
	if len(of) == 0 {
		return leaf.Node{}, api.ErrNone
	}
	return leaf.Node{Leaf: n.Leaf, L: slices.Concat(ahead, behind)}, api.OK
}

func slowSplit(n leaf.Node) (leaf.Node, leaf.Node, api.Errno) {
	if wrong := slowCheck(n); wrong != api.OK {
		return leaf.Node{}, leaf.Node{}, wrong
	}
	if len(n.L) < 2 {
		return leaf.Node{}, leaf.Node{}, api.ErrState
	}
	a, b := leaf.Node{Leaf: n.Leaf}, leaf.Node{Leaf: n.Leaf}
	for i, e := range n.L {
		if 2*(i+1) <= len(n.L) {
			a.L = append(a.L, e)
		} else {
			b.L = append(b.L, e)
		}
	}
	return a, b, api.OK
}

func slowMerge(a, b leaf.Node) (leaf.Node, api.Errno) {
	if wrong := slowCheck(a); wrong != api.OK {
		return leaf.Node{}, wrong
	}
	if wrong := slowCheck(b); wrong != api.OK {
		return leaf.Node{}, wrong
	}
	all := leaf.Node{Leaf: a.Leaf, L: slices.Concat(a.L, b.L)}
	switch {
	case a.Leaf != b.Leaf:
		return leaf.Node{}, api.ErrState
	case len(all.L) > 16:
		return leaf.Node{}, api.ErrFull
	case !slowRise(all.L):
		return leaf.Node{}, api.ErrForm
	}
	return all, api.OK
}

// agreeBytes: Check, Encode and Decode of what Encode answers are the model's.
func agreeBytes(t *testing.T, n leaf.Node) {
	t.Helper()
	want := slowCheck(n)
	if e := leaf.Check(n); e != want {
		t.Fatalf("Check(%v): %d, want %d", n, e, want)
	}
	var code []byte
	if want == api.OK {
		code = body(n)
	}
	if b, e := leaf.Encode(n); !slices.Equal(b, code) || e != want {
		t.Fatalf("Encode(%v) = %v %d, want %v %d", n, b, e, code, want)
	}
	if want == api.OK {
		if m, e := leaf.Decode(code); !slowSame(m, n) || e != api.OK {
			t.Fatalf("Decode(%v) = %v %d, want %v", code, m, e, n)
		}
	}
}

// agreeDecode: of bytes that are, or aren't, a body.
func agreeDecode(t *testing.T, b []byte) {
	t.Helper()
	want, wrong := slowDecode(b)
	if n, e := leaf.Decode(b); !slowSame(n, want) || e != wrong {
		t.Fatalf("Decode(%v) = %v %d, want %v %d", b, n, e, want, wrong)
	}
}

// agreeFind: of entries whose keys rise.
func agreeFind(t *testing.T, n leaf.Node, key leaf.Key) {
	t.Helper()
	place, there := slowFind(n.L, key)
	if i, is := n.Find(key); i != place || is != there {
		t.Fatalf("%v.Find(%v) = %d %v, want %d %v", n, key, i, is, place, there)
	}
	place, want := slowChild(n, key)
	if i, e := n.Child(key); i != place || e != want {
		t.Fatalf("%v.Child(%v) = %d %d, want %d %d", n, key, i, e, place, want)
	}
}

func agreeWith(t *testing.T, n leaf.Node, e leaf.Entry) {
	t.Helper()
	want, wrong := slowWith(n, e)
	if m, f := n.With(e); !slowSame(m, want) || f != wrong {
		t.Fatalf("%v.With(%v) = %v %d, want %v %d", n, e, m, f, want, wrong)
	}
}

func agreeWithout(t *testing.T, n leaf.Node, key leaf.Key) {
	t.Helper()
	want, wrong := slowWithout(n, key)
	if m, e := n.Without(key); !slowSame(m, want) || e != wrong {
		t.Fatalf("%v.Without(%v) = %v %d, want %v %d", n, key, m, e, want, wrong)
	}
}

// agreeSplit: of the node, and that what is split is merged as it was.
func agreeSplit(t *testing.T, n leaf.Node) {
	t.Helper()
	first, second, wrong := slowSplit(n)
	a, b, e := n.Split()
	if !slowSame(a, first) || !slowSame(b, second) || e != wrong {
		t.Fatalf("%v.Split() = %v %v %d, want %v %v %d", n, a, b, e, first, second, wrong)
	}
	if wrong != api.OK {
		return
	}
	if m, e := leaf.Merge(a, b); !slowSame(m, n) || e != api.OK {
		t.Fatalf("%v is split and merged %v %d", n, m, e)
	}
}

func agreeMerge(t *testing.T, a, b leaf.Node) {
	t.Helper()
	want, wrong := slowMerge(a, b)
	if m, e := leaf.Merge(a, b); !slowSame(m, want) || e != wrong {
		t.Fatalf("Merge(%v, %v) = %v %d, want %v %d", a, b, m, e, want, wrong)
	}
}
