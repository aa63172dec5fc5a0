package leaf_test

import (
	"slices"
	"testing"

	"incipit/api"
	"incipit/leaf"
)

// spoil: all of the list is this, what it has room for too.
func spoil[T any](l []T, with T) {
	l = l[:cap(l)]
	for i := range l {
		l[i] = with
	}
}

// mark stands in room that isn't a list's own, bad in what was spoilt.
func mark() leaf.Entry { return x(7, 7, 77) }
func bad() leaf.Entry  { return x(-1, -1, -1) }

// room: the list, with room behind it that isn't its own.
func room(l list) list {
	r := slices.Clone(l)
	for range 20 {
		r = append(r, mark())
	}
	return r[:len(l)]
}

// asItWas: is a list that came from room, and what stands behind it, as it was?
func asItWas(in, was list) bool {
	return slices.Equal(in[:len(in)+20], slices.Concat(was, slices.Repeat(list{mark()}, 20)))
}

// apart: a call that is told two lists, and answers some: what is done to one of them isn't seen in any other one.
func apart(t *testing.T, name string, first, second list, call func(a, b list) []list) {
	t.Helper()
	a, b := room(first), room(second)
	var want []list
	for _, l := range call(a, b) {
		want = append(want, slices.Clone(l))
	}
	if !asItWas(a, first) || !asItWas(b, second) {
		t.Fatalf("%s: what was handed in is %v and %v, was %v and %v", name, a, b, first, second)
	}
	for i := range len(want) + 2 {
		a, b := room(first), room(second)
		all := append(call(a, b), a, b)
		spoil(all[i], bad())
		for j, l := range all {
			wanted := append(want, first, second)[j]
			if j != i && !slices.Equal(l, wanted) {
				t.Errorf("%s of %v and %v: list %d is %v, not %v any more, as list %d was spoilt", name, first, second, j, l, wanted, i)
			}
		}
		if i != len(want) && !asItWas(a, first) || i != len(want)+1 && !asItWas(b, second) {
			t.Errorf("%s of %v and %v: what was handed in was spoilt with list %d", name, first, second, i)
		}
	}
}

// P9.4: With and Without share nothing with the node, at each place.
func TestWithAndWithoutAreApart(t *testing.T) {
	for count := range 17 {
		l := rising(count)
		for _, is := range []bool{true, false} {
			if count == 0 && !is {
				continue
			}
			for _, e := range append(l, x(0, 2, 9), x(7, 301, 9), x(15, 65534, 9)) {
				apart(t, "With", l, nil, func(a, b list) []list {
					n, _ := leaf.Node{Leaf: is, L: a}.With(e)
					return []list{n.L}
				})
				apart(t, "Without", l, nil, func(a, b list) []list {
					n, _ := leaf.Node{Leaf: is, L: a}.Without(e.Key)
					return []list{n.L}
				})
			}
		}
	}
}

// P9.4: the halves share nothing with the node, nor with each other, neither in what they have room for.
func TestSplitIsApart(t *testing.T) {
	for count := 2; count <= 16; count++ {
		apart(t, "Split", rising(count), nil, func(l, _ list) []list {
			a, b, e := leaf.Node{L: l}.Split()
			if e != api.OK {
				t.Fatal(e)
			}
			return []list{a.L, b.L}
		})
		a, b, _ := leaf.Node{Leaf: true, L: rising(count)}.Split()
		a.L = append(a.L, bad())
		if !slices.Equal(b.L, rising(count)[count/2:]) {
			t.Errorf("%d entries: what was appended to the first half stands in the second: %v", count, b.L)
		}
	}
}

// P9.4: what is merged shares nothing with either, also where one side is empty.
func TestMergeIsApart(t *testing.T) {
	for count := range 17 {
		for cut := range count + 1 {
			l := rising(count)
			apart(t, "Merge", l[:cut], l[cut:], func(a, b list) []list {
				n, e := leaf.Merge(leaf.Node{Leaf: true, L: a}, leaf.Node{Leaf: true, L: b})
				if e != api.OK {
					t.Fatal(e)
				}
				return []list{n.L}
			})
		}
	}
}

// P9.4: what Encode and Decode answer stands for itself.
func TestBytesAreApart(t *testing.T) {
	for _, l := range rights() {
		n := leaf.Node{Leaf: true, L: room(l)}
		code, _ := leaf.Encode(n)
		m, e := leaf.Decode(code)
		if e != api.OK {
			t.Fatal(e)
		}
		spoil(code, 0xAA)
		if !asItWas(n.L, l) || !slices.Equal(m.L, l) {
			t.Errorf("with the bytes %v and %v changed", n, m)
		}
		code, _ = leaf.Encode(n)
		was := slices.Clone(code)
		spoil(m.L, bad())
		spoil(n.L, bad())
		if !slices.Equal(code, was) {
			t.Errorf("with the nodes the bytes %v changed", code)
		}
	}
}

// The rule of what is handed in: nodes, bytes and what stands behind them are as they were behind each call.
func TestWhatIsHandedInIsAsItWas(t *testing.T) {
	var nodes []leaf.Node
	for _, l := range rights() {
		nodes = append(nodes, both(l)...)
	}
	for _, wrong := range faulty() {
		nodes = append(nodes, wrong...)
	}
	for _, y := range nodes {
		n, other := leaf.Node{Leaf: y.Leaf, L: room(y.L)}, leaf.Node{Leaf: true, L: room(rising(3))}
		leaf.Check(n)
		leaf.Encode(n)
		leaf.Same(n, other)
		for _, key := range append(around(y.L), k(1, 5), k(15, 65534)) {
			n.Find(key)
			n.Child(key)
			n.With(leaf.Entry{Key: key, Page: 5})
			n.Without(key)
		}
		n.Split()
		leaf.Merge(n, other)
		leaf.Merge(other, n)
		if !asItWas(n.L, y.L) || !asItWas(other.L, rising(3)) {
			t.Errorf("%v and %v aren't as they were", n, other)
		}
		code := append(body(y), 1, 2, 3)
		was := slices.Clone(code)
		leaf.Decode(code[:len(code)-3])
		if !slices.Equal(code, was) {
			t.Errorf("the bytes %v aren't as they were", code)
		}
	}
}

// P2: the same calls have the same answers, whatever was done to the first ones, each in memory of its own.
func TestTheSameAgain(t *testing.T) {
	n := leaf.Node{Leaf: true, L: rising(9)}
	code := body(n)
	answers := func() []list {
		with, _ := n.With(x(15, 1, 2))
		without, _ := n.Without(k(0, 0))
		a, b, _ := n.Split()
		merged, _ := leaf.Merge(a, b)
		decoded, _ := leaf.Decode(code)
		return []list{with.L, without.L, a.L, b.L, merged.L, decoded.L}
	}
	first := answers()
	var was []list
	for _, l := range first {
		was = append(was, slices.Clone(l))
	}
	second := answers()
	for _, l := range first {
		spoil(l, bad())
	}
	for _, again := range [][]list{second, answers()} {
		if !slices.EqualFunc(again, was, slices.Equal) {
			t.Errorf("the answers are %v, then %v", was, again)
		}
	}
}
