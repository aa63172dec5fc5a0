package leaf_test

import (
	"slices"
	"testing"

	"incipit/api"
	"incipit/leaf"
	"incipit/varint"
)

// The chapter's example.
func TestExample(t *testing.T) {
	n := leaf.Node{Leaf: true, L: list{x(1, 5, 9)}}
	code := []byte{1, 1, 1, 5, 9}
	if b, e := leaf.Encode(n); e != api.OK || !slices.Equal(b, code) {
		t.Errorf("Encode(%v) = %v %d", n, b, e)
	}
	if m, e := leaf.Decode(code); e != api.OK || !leaf.Same(m, n) {
		t.Errorf("Decode = %v %d", m, e)
	}
	if leaf.Most != 16 {
		t.Error(leaf.Most)
	}
}

// P9.1: keys at the edges, and far off.
func TestRight(t *testing.T) {
	sections, numbers := append(far(), -1, 0, 1, 14, 15, 16), append(far(), -1, 0, 1, 255, 256, 65534, 65535, 65536)
	for _, section := range sections {
		for _, no := range numbers {
			want := within(section, 0, 15) && within(no, 0, 65535)
			if leaf.Right(k(section, no)) != want {
				t.Errorf("Right of %d %d isn't %v", section, no, want)
			}
		}
	}
	for section := range 16 {
		if !leaf.Right(k(section, 7)) {
			t.Errorf("section %d isn't right", section)
		}
	}
}

// P9.1: by name, and all pairs of many keys.
func TestLess(t *testing.T) {
	for _, y := range []struct {
		a, b leaf.Key
		want bool
	}{
		{k(1, 5), k(2, 5), true}, {k(2, 5), k(1, 5), false},
		{k(1, 5), k(1, 6), true}, {k(1, 6), k(1, 5), false},
		{k(1, 6), k(2, 5), true}, {k(2, 5), k(1, 6), false},
		{k(1, 5), k(2, 6), true}, {k(2, 6), k(1, 5), false},
		{k(1, 5), k(1, 5), false}, {k(0, 0), k(0, 0), false},
		{k(0, 65535), k(1, 0), true}, {k(1, 0), k(0, 65535), false},
	} {
		if leaf.Less(y.a, y.b) != y.want {
			t.Errorf("Less(%v, %v) isn't %v", y.a, y.b, y.want)
		}
	}
	for _, a := range keys() {
		for _, b := range keys() {
			if leaf.Less(a, b) != slowLess(a, b) {
				t.Errorf("Less(%v, %v) isn't %v", a, b, slowLess(a, b))
			}
		}
	}
}

// P9.1: nodes as they must be, and their bytes.
func TestRightNodes(t *testing.T) {
	for _, l := range rights() {
		for _, n := range both(l) {
			want := api.OK
			if !n.Leaf && len(l) == 0 {
				want = api.ErrForm
			}
			if e := leaf.Check(n); e != want {
				t.Errorf("Check(%v): %d, want %d", n, e, want)
			}
			agreeBytes(t, n)
		}
	}
}

// P9.1: nodes that are wrong in one way, which have no body.
func TestWrongNodes(t *testing.T) {
	for want, nodes := range faulty() {
		for _, n := range nodes {
			if e := leaf.Check(n); e != want {
				t.Errorf("Check(%v): %d, want %d", n, e, want)
			}
			if b, e := leaf.Encode(n); len(b) != 0 || e != want {
				t.Errorf("Encode(%v) = %v %d, want %d", n, b, e, want)
			}
		}
	}
}

// P9.1: none, one, 15, 16, 17 and many entries, as a leaf and as none.
func TestHowManyEntries(t *testing.T) {
	for count, want := range map[int][2]api.Errno{
		0: {api.OK, api.ErrForm}, 1: {}, 15: {}, 16: {},
		17: {api.ErrLong, api.ErrLong}, 18: {api.ErrLong, api.ErrLong}, 256: {api.ErrLong, api.ErrLong}, 272: {api.ErrLong, api.ErrLong}, 4000: {api.ErrLong, api.ErrLong},
	} {
		var l list
		for i := range count {
			l = append(l, x(3, i, 2+i%2000))
		}
		for i, n := range both(l) {
			if e := leaf.Check(n); e != want[i] {
				t.Errorf("%d entries, leaf %v: %d, want %d", count, n.Leaf, e, want[i])
			}
			agreeBytes(t, n)
		}
	}
}

// P9.1: a wrong key or page at the first, a middle and the last place.
func TestWrongEntries(t *testing.T) {
	for _, e := range wrongEntries() {
		for _, count := range []int{0, 2, 15} {
			for place := 0; place <= count; place++ {
				for _, n := range both(slices.Insert(rising(count), place, e)) {
					if f := leaf.Check(n); f != api.ErrRange {
						t.Errorf("Check(%v): %d", n, f)
					}
					agreeBytes(t, n)
				}
			}
		}
	}
	for page := -3; page <= 2052; page++ {
		agreeBytes(t, leaf.Node{Leaf: true, L: list{x(1, 5, page)}})
	}
	for no := -3; no <= 65540; no++ {
		agreeBytes(t, leaf.Node{L: list{x(1, no, 9)}})
	}
}

// P9.1: how one key stands to the next, at the first, a middle and the last place.
func TestKeysThatRise(t *testing.T) {
	for i, y := range []struct {
		a, b leaf.Entry
		want api.Errno
	}{
		{x(5, 7, 9), x(6, 7, 9), api.OK},      // by the section alone
		{x(5, 7, 9), x(5, 8, 9), api.OK},      // by the number alone
		{x(5, 7, 9), x(6, 6, 9), api.OK},      // by the section while the number falls
		{x(5, 7, 9), x(5, 7, 9), api.ErrForm}, // the same
		{x(5, 7, 9), x(5, 7, 8), api.ErrForm}, // the same, of other pages
		{x(5, 7, 8), x(5, 7, 9), api.ErrForm}, // the same, the pages rising
		{x(6, 7, 9), x(5, 7, 9), api.ErrForm}, // falling
		{x(5, 8, 9), x(5, 7, 9), api.ErrForm},
		{x(6, 6, 8), x(5, 7, 9), api.ErrForm},
	} {
		low, high := list{x(2, 3, 4), x(3, 0, 4)}, list{x(9, 9, 4), x(11, 0, 4)}
		pair := list{y.a, y.b}
		for _, l := range []list{pair, slices.Concat(pair, high), slices.Concat(low, pair), slices.Concat(low, pair, high)} {
			for _, n := range both(l) {
				if e := leaf.Check(n); e != y.want {
					t.Errorf("%d: Check(%v): %d, want %d", i, n, e, y.want)
				}
				agreeBytes(t, n)
			}
		}
	}
	for i := range 15 {
		l := rising(16)
		l[i], l[i+1] = l[i+1], l[i]
		agreeBytes(t, leaf.Node{Leaf: true, L: l})
		l[i] = l[i+1]
		agreeBytes(t, leaf.Node{Leaf: true, L: l})
	}
}

// P9.1: which of several errors is told, each pair in both orders.
func TestFirstErrorOfCheck(t *testing.T) {
	long, wrong := rising(17), list{x(0, 0, 1)}
	falling := rising(17)
	slices.Reverse(falling)
	for i, y := range []struct {
		l    list
		want api.Errno
	}{
		{append(wrong, long...), api.ErrLong}, {append(rising(17), wrong...), api.ErrLong},
		{append(rising(16), x(15, 65535, 2048)), api.ErrLong}, {append(list{x(-1, 0, 2)}, rising(17)[1:]...), api.ErrLong},
		{falling, api.ErrLong}, {append(rising(16), x(0, 0, 2)), api.ErrLong}, {append(list{x(15, 65535, 2)}, rising(16)...), api.ErrLong},
		{make(list, 17), api.ErrLong}, {make(list, 16), api.ErrRange}, {make(list, 2), api.ErrRange},
		{list{x(1, 5, 1), x(1, 5, 9)}, api.ErrRange}, {list{x(1, 5, 9), x(1, 5, 1)}, api.ErrRange},
		{list{x(1, 5, 9), x(1, 4, 9), x(2, 0, 2048)}, api.ErrRange}, {list{x(-1, 0, 9), x(1, 5, 9), x(1, 4, 9)}, api.ErrRange},
		{list{x(16, 0, 9), x(1, 5, 9)}, api.ErrRange}, {list{x(1, 5, 9), x(0, 65536, 9)}, api.ErrRange},
		{append(falling[1:16:16], x(0, 0, 0)), api.ErrRange}, {append(list{x(16, 0, 2)}, rising(15)...), api.ErrRange},
	} {
		for _, n := range both(y.l) {
			if e := leaf.Check(n); e != y.want {
				t.Errorf("%d: Check(%v): %d, want %d", i, n, e, y.want)
			}
			if b, e := leaf.Encode(n); len(b) != 0 || e != y.want {
				t.Errorf("%d: Encode(%v) = %v %d, want %d", i, n, b, e, y.want)
			}
		}
	}
}

// P9.1: all nodes of up to three entries of few.
func TestEveryNode(t *testing.T) {
	everyList(3, func(l list) {
		for _, n := range both(l) {
			agreeBytes(t, n)
		}
	})
}

// P9.1: the bytes, by name: numbers of one, two and three bytes, and pages of one and two.
func TestEncode(t *testing.T) {
	for _, y := range []struct {
		n    leaf.Node
		code []byte
	}{
		{leaf.Node{Leaf: true}, []byte{1, 0}},
		{leaf.Node{Leaf: true, L: list{}}, []byte{1, 0}},
		{leaf.Node{L: list{x(0, 0, 2)}}, []byte{0, 1, 0, 0, 2}},
		{leaf.Node{Leaf: true, L: list{x(15, 127, 127)}}, []byte{1, 1, 15, 127, 127}},
		{leaf.Node{L: list{x(15, 128, 128)}}, []byte{0, 1, 15, 128, 1, 128, 1}},
		{leaf.Node{L: list{x(7, 16383, 300)}}, []byte{0, 1, 7, 255, 127, 172, 2}},
		{leaf.Node{L: list{x(7, 16384, 2047)}}, []byte{0, 1, 7, 128, 128, 1, 255, 15}},
		{leaf.Node{Leaf: true, L: list{x(15, 65535, 2047)}}, []byte{1, 1, 15, 255, 255, 3, 255, 15}},
		{leaf.Node{Leaf: true, L: list{x(0, 300, 5), x(2, 1, 4)}}, []byte{1, 2, 0, 172, 2, 5, 2, 1, 4}},
	} {
		if b, e := leaf.Encode(y.n); !slices.Equal(b, y.code) || e != api.OK {
			t.Errorf("Encode(%v) = %v %d, want %v", y.n, b, e, y.code)
		}
		if n, e := leaf.Decode(y.code); !leaf.Same(n, y.n) || e != api.OK {
			t.Errorf("Decode(%v) = %v %d, want %v", y.code, n, e, y.n)
		}
	}
	full := leaf.Node{Leaf: true}
	for i := range 16 {
		full.L = append(full.L, x(i, 65535-i, 2047-i))
	}
	if b, e := leaf.Encode(full); len(b) != 98 || b[1] != 16 || e != api.OK {
		t.Errorf("the longest body: %v %d", b, e)
	}
}

// P9.1: bodies of which a byte is turned, that are cut short, or that have bytes behind them.
func TestDecodeOfSpoiltBodies(t *testing.T) {
	for _, l := range rights() {
		for _, n := range both(l) {
			code := body(n)
			for i := range code {
				for turn := range 256 {
					b := slices.Clone(code)
					b[i] ^= byte(turn)
					agreeDecode(t, b)
				}
				agreeDecode(t, slices.Delete(slices.Clone(code), i, i+1))
				agreeDecode(t, slices.Insert(slices.Clone(code), i, 0))
				agreeDecode(t, slices.Insert(slices.Clone(code), i, 128))
				agreeDecode(t, code[i:])
				if m, e := leaf.Decode(code[:i]); e != api.ErrForm || m.Leaf || len(m.L) != 0 {
					t.Errorf("Decode(%v), cut short: %v %d", code[:i], m, e)
				}
			}
			for _, behind := range [][]byte{{0}, {1}, {128}, {255}, {0, 0, 0}, {15, 127, 127}, code} {
				if m, e := leaf.Decode(slices.Concat(code, behind)); e != api.ErrForm || m.Leaf || len(m.L) != 0 {
					t.Errorf("Decode(%v), then %v: %v %d", code, behind, m, e)
				}
			}
		}
	}
}

// P9.1: bytes that are no body, by name: always ErrForm, whatever is wrong.
func TestDecodeOfNoBodies(t *testing.T) {
	for _, b := range [][]byte{
		nil, {}, {0}, {1}, {2}, {0, 0}, // nothing, and none that is no leaf
		{2, 0}, {2, 1, 1, 5, 9}, {255, 1, 1, 5, 9}, {129, 0, 1, 1, 5, 9}, {128, 1, 1, 5, 9}, // a first byte of 2 and above
		{1, 1}, {1, 1, 1}, {1, 1, 1, 5}, {1, 2, 1, 5, 9}, {1, 0, 1, 5, 9}, {0, 0, 1, 5, 9}, {1, 1, 1, 5, 9, 1, 6, 9}, {1, 3, 1, 5, 9, 1, 6, 9}, // another count
		{1, 129, 0, 1, 5, 9}, {1, 128, 0}, {1, 128}, {1, 255}, // the count is a byte, no number of any size
		{1, 1, 129, 0, 5, 9}, {1, 1, 1, 133, 0, 9}, {1, 1, 1, 5, 137, 0}, {1, 1, 128, 0, 5, 9}, {1, 1, 1, 5, 137, 128, 0}, // longer than they must be
		{1, 2, 1, 5, 9, 1, 5, 9}, {1, 2, 1, 5, 9, 1, 4, 9}, {0, 2, 1, 5, 9, 0, 6, 9}, {0, 3, 1, 5, 9, 2, 6, 9, 2, 6, 8}, // keys that don't rise
		{1, 1, 1, 5, 0}, {1, 1, 1, 5, 1}, {0, 1, 1, 5, 1}, {1, 1, 1, 5, 128, 16}, {1, 1, 1, 5, 255, 127}, // a page out of range
		{1, 1, 16, 5, 9}, {1, 1, 127, 5, 9}, {1, 1, 129, 1, 5, 9}, {1, 1, 1, 128, 128, 4, 9}, {0, 1, 1, 255, 255, 127, 9}, // a key that is none
		slices.Concat([]byte{1, 1}, slices.Repeat([]byte{255}, 9), []byte{1, 5, 9}),           // a number above all
		slices.Concat([]byte{1, 1}, slices.Repeat([]byte{255}, 8), []byte{127, 5, 9}),         // the highest number
		slices.Concat([]byte{1, 1, 1, 5}, slices.Repeat([]byte{137}, 11), []byte{1}),          // of more than ten bytes
		slices.Concat([]byte{1, 1, 1, 5}, varint.Put(1<<32+9)), slices.Repeat([]byte{0}, 256), // low bits that would be a page; a page of 0
		slices.Repeat([]byte{1}, 256), slices.Repeat([]byte{255}, 256), slices.Repeat([]byte{128}, 70000),
	} {
		if n, e := leaf.Decode(b); e != api.ErrForm || n.Leaf || len(n.L) != 0 {
			t.Errorf("Decode(%v) = %v %d", b, n, e)
		}
		agreeDecode(t, b)
	}
	// Entries as they must be, but more than 16 of them.
	for _, count := range []int{17, 18, 255, 256 + 16} {
		var l list
		for i := range count {
			l = append(l, x(1, i, 9))
		}
		for _, n := range both(l) {
			if m, e := leaf.Decode(body(n)); e != api.ErrForm || m.Leaf || len(m.L) != 0 {
				t.Errorf("Decode of %d entries: %v %d", count, m, e)
			}
		}
	}
}

// P9.1: none of a leaf is a body.
func TestDecodeOfNone(t *testing.T) {
	if n, e := leaf.Decode([]byte{1, 0}); !n.Leaf || len(n.L) != 0 || e != api.OK {
		t.Errorf("Decode = %v %d", n, e)
	}
}

// P9.1: all bytes of few, up to six of them behind the head.
func TestDecodeOfAllBytes(t *testing.T) {
	var all func(b []byte, left int)
	all = func(b []byte, left int) {
		agreeDecode(t, b)
		if left == 0 {
			return
		}
		for _, c := range []byte{0, 1, 2, 15, 16, 128, 255} {
			all(append(b[:len(b):len(b)], c), left-1)
		}
	}
	for _, head := range [][]byte{{0, 0}, {0, 1}, {0, 2}, {1, 0}, {1, 1}, {1, 2}} {
		all(head, 6)
	}
	all(nil, 3)
}

// P9.1: what makes nodes others.
func TestSame(t *testing.T) {
	was := list{x(1, 5, 9), x(1, 6, 10), x(2, 0, 11)}
	n := leaf.Node{Leaf: true, L: was}
	others := []leaf.Node{{}, {Leaf: true}, {L: was}, {Leaf: true, L: was[:2]}, {Leaf: true, L: was[1:]}, {Leaf: true, L: append(slices.Clone(was), x(3, 0, 2))}, {Leaf: true, L: list{was[1], was[0], was[2]}}}
	for i := range was {
		for _, by := range []leaf.Entry{x(1, 0, 0), x(0, 1, 0), x(0, 0, 1), x(1<<32, 0, 0), x(0, 1<<32, 0), x(0, 0, 1<<32), x(1, -1, 0), x(0, 1, -1)} {
			l := slices.Clone(was)
			l[i] = x(l[i].Key.Section+by.Key.Section, l[i].Key.No+by.Key.No, l[i].Page+by.Page)
			others = append(others, leaf.Node{Leaf: true, L: l})
		}
	}
	for _, m := range others {
		if leaf.Same(n, m) || leaf.Same(m, n) {
			t.Errorf("Same(%v, %v)", n, m)
		}
	}
	for _, m := range append(others, n) {
		if !leaf.Same(m, leaf.Node{Leaf: m.Leaf, L: slices.Clone(m.L)}) {
			t.Errorf("%v isn't the same as itself", m)
		}
		for _, o := range append(others, n) {
			if leaf.Same(m, o) != slowSame(m, o) {
				t.Errorf("Same(%v, %v) isn't %v", m, o, slowSame(m, o))
			}
		}
	}
	for _, is := range []bool{false, true} {
		none, empty := leaf.Node{Leaf: is}, leaf.Node{Leaf: is, L: list{}}
		if !leaf.Same(none, empty) || !leaf.Same(empty, none) || !leaf.Same(none, none) || !leaf.Same(empty, empty) {
			t.Error("no entry and nil aren't the same")
		}
		if leaf.Same(none, leaf.Node{Leaf: !is}) || leaf.Same(none, leaf.Node{Leaf: !is, L: list{}}) {
			t.Error("a leaf and none are the same")
		}
	}
}
