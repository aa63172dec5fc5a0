package extent_test

import (
	"slices"
	"testing"

	"incipit/api"
	"incipit/extent"
)

// spoil: all of the list is this, what it has room for too.
func spoil[T any](l []T, with T) {
	l = l[:cap(l)]
	for i := range l {
		l[i] = with
	}
}

// apart: what is done to the answer isn't seen in what was handed in, and what was handed in isn't seen in the answer.
func apart[A, B any](t *testing.T, name string, in []A, out []B, a A, b B, same func(in []A, out []B) bool) {
	t.Helper()
	wasIn, wasOut := slices.Clone(in), slices.Clone(out)
	spoil(out, b)
	if !same(in, wasOut) {
		t.Errorf("%s: what was handed in changed with the answer", name)
	}
	copy(out, wasOut)
	spoil(in, a)
	if !same(wasIn, out) {
		t.Errorf("%s: the answer changed with what was handed in", name)
	}
}

// room: the list, with room behind it that isn't its own.
func room[T any](behind T, l ...T) []T {
	r := slices.Clone(l)
	for range 4 {
		r = append(r, behind)
	}
	return r[:len(l)]
}

// P8.4, and the rule of what is handed in: nothing is kept, changed or shared, nor what stands behind it.
func TestAnswersAreApart(t *testing.T) {
	was, pages := list{x(9, 2), x(3, 1), x(11, 1)}, []int{9, 10, 3, 11}
	bad, mark := x(-1, -1), x(77, 7)
	in := func() list { return room(mark, was...) }
	listToList := func(want list) func(in, out list) bool {
		return func(in, out list) bool { return slices.Equal(in, was) && slices.Equal(out, want) }
	}

	of := room(77, pages...)
	l, _ := extent.Of(of...)
	apart(t, "Of", of, l, -1, bad, func(in []int, out list) bool { return slices.Equal(in, pages) && slices.Equal(out, was) })

	a := in()
	apart(t, "Pages", a, extent.Pages(a...), bad, -1, func(in list, out []int) bool { return slices.Equal(in, was) && slices.Equal(out, pages) })

	for _, y := range []struct {
		from, to int
		want     list
	}{{0, 4, was}, {0, 2, was[:1]}, {1, 3, list{x(10, 1), x(3, 1)}}, {2, 4, was[1:]}, {0, 3, was[:2]}} {
		a := in()
		p, _ := extent.Part(a, y.from, y.to)
		apart(t, "Part", a, p, bad, bad, listToList(y.want))
	}

	a = in()
	j, _ := extent.Join(a)
	apart(t, "Join of one", a, j, bad, bad, listToList(was))
	a = in()
	j, _ = extent.Join(nil, a, nil)
	apart(t, "Join of one and nothing", a, j, bad, bad, listToList(was))
	a = in()
	j, _ = extent.Join(a, list{x(12, 2)})
	apart(t, "Join of two, the first", a, j, bad, bad, listToList(list{x(9, 2), x(3, 1), x(11, 3)}))
	a = in()
	j, _ = extent.Join(list{x(8, 1)}, a)
	apart(t, "Join of two, the second", a, j, bad, bad, listToList(list{x(8, 3), x(3, 1), x(11, 1)}))

	a = in()
	b, _ := extent.Encode(a...)
	apart(t, "Encode", a, b, bad, 0xFF, func(in list, out []byte) bool {
		return slices.Equal(in, was) && slices.Equal(out, []byte{6, 9, 2, 3, 1, 11, 1})
	})
}

// P8.4: the same of both that Decode answers, which don't share memory with each other, either.
func TestDecodedIsApart(t *testing.T) {
	was := list{x(9, 2), x(3, 1)}
	code := []byte{4, 9, 2, 3, 1, 5, 6, 7}
	b := room(0xAA, code...)
	l, rest, e := extent.Decode(b)
	if e != api.OK {
		t.Fatal(e)
	}
	right := func(in []byte, out list) bool { return slices.Equal(in, code) && slices.Equal(out, was) }
	apart(t, "Decode", b, l, 0xEE, x(-1, -1), right)

	b = room(0xAA, code...)
	l, rest, _ = extent.Decode(b)
	apart(t, "Decode's rest", b, rest, 0xEE, 0x11, func(in, out []byte) bool { return slices.Equal(in, code) && slices.Equal(out, code[5:]) })
	if !slices.Equal(l, was) {
		t.Errorf("the list changed with the rest: %v", l)
	}
}

// The rule of what is handed in: lists and what stands behind them are as they were behind each call.
func TestWhatIsHandedInIsAsItWas(t *testing.T) {
	mark := x(77, 7)
	for _, was := range []list{{x(9, 2), x(3, 1), x(11, 1)}, {x(5, 2), x(7, 1)}, {x(5, 1), x(5, 1)}, {x(1, 1)}, {x(2, 1025)}, nil} {
		l := room(mark, was...)
		lists := room(list{mark}, l, list{x(12, 2)}, l)
		extent.Check(l...)
		extent.Pages(l...)
		extent.Count(l...)
		extent.At(l, 1)
		extent.Find(l, 3)
		extent.Part(l, 1, 2)
		extent.Join(l)
		extent.Join(l, list{x(12, 2)})
		extent.Join(lists...)
		extent.Encode(l...)
		if want := slices.Concat(was, list{mark, mark, mark, mark}); !slices.Equal(l[:len(l)+4], want) {
			t.Errorf("the list is %v, want %v", l[:len(l)+4], want)
		}
		if !slices.EqualFunc(lists[:7], []list{was, {x(12, 2)}, was, {mark}, {mark}, {mark}, {mark}}, slices.Equal) {
			t.Errorf("the lists are %v", lists[:7])
		}
	}
	pages := room(77, 5, 6, 7, 2)
	extent.Of(pages...)
	code := room(0xAA, 4, 5, 3, 2, 1, byte(9))
	extent.Decode(code)
	if !slices.Equal(pages[:8], []int{5, 6, 7, 2, 77, 77, 77, 77}) || !slices.Equal(code[:10], []byte{4, 5, 3, 2, 1, 9, 0xAA, 0xAA, 0xAA, 0xAA}) {
		t.Errorf("the pages are %v, the bytes %v", pages[:8], code[:10])
	}
}

// P2: the same calls have the same answers, each in memory of its own.
func TestTheSameAgain(t *testing.T) {
	l := list{x(9, 2), x(3, 1), x(11, 1)}
	p, _ := extent.Part(l, 0, 4)
	j, _ := extent.Join(l, nil)
	pages := extent.Pages(l...)
	spoil(p, x(-1, -1))
	spoil(j, x(-1, -1))
	spoil(pages, -1)
	agree(t, l)
	if q, e := extent.Part(l, 0, 4); !slices.Equal(q, l) || e != api.OK {
		t.Errorf("Part again = %v %d", q, e)
	}
	if q, e := extent.Join(l, nil); !slices.Equal(q, l) || e != api.OK {
		t.Errorf("Join again = %v %d", q, e)
	}
}
