package packed_test

import (
	"bytes"
	"slices"
	"testing"

	"incipit/api"
	"incipit/packed"
)

// turned: each number of the array is turned, and some are added.
func turned(a *packed.Array) {
	for i, n := range a.All() {
		a.Set(i, top(a.Width())-n)
	}
	a.Add(1, 0, top(a.Width()))
}

func (m model) turned() model {
	m = m.copied()
	for i, n := range m.l {
		m.l[i] = top(m.width) - n
	}
	m.add(1, 0, top(m.width))
	return m
}

// spoil: all of the list is this, what it has room for too.
func spoil[T any](l []T, with T) {
	l = l[:cap(l)]
	for i := range l {
		l[i] = with
	}
}

// P12.3: a copy isn't changed with the array, nor the array with its copy.
func TestCopiesAreApart(t *testing.T) {
	eachModel(func(m model) {
		a := made(t, m)
		// Behind an Add there may be room in which both could write.
		grown := made(t, model{width: m.width})
		for _, n := range m.l {
			grown.Add(n)
		}
		for _, a := range []*packed.Array{a, grown} {
			c := a.Copy()
			agree(t, "Copy", c, m)
			turned(a)
			agree(t, "Copy, behind the array's change", c, m)
			agree(t, "the array", a, m.turned())
			c = a.Copy()
			turned(c)
			agree(t, "the array, behind its copy's change", a, m.turned())
			agree(t, "Copy, turned", c, m.turned().turned())
			turned(a)
			if !packed.Same(a, c) {
				t.Fatal("the same changes made others")
			}
		}
	})
}

// P12.3: two copies of one array are apart, too.
func TestTwoCopiesAreApart(t *testing.T) {
	m := model{5, []int{1, 2, 3}}
	a := made(t, m)
	b, c := a.Copy(), a.Copy()
	b.Add(4, 5)
	c.Add(31, 30)
	agree(t, "the one", b, model{5, []int{1, 2, 3, 4, 5}})
	agree(t, "the other", c, model{5, []int{1, 2, 3, 31, 30}})
	agree(t, "the array", a, m)
}

// P12.3: lists and bytes that are answered are the caller's own, each time.
func TestListsAreApart(t *testing.T) {
	eachModel(func(m model) {
		a := made(t, m)
		all, b := a.All(), a.Bytes()
		spoil(all, -1)
		spoil(b, 0xFF)
		agree(t, "behind what was spoiled", a, m)
		all, b = a.All(), a.Bytes()
		turned(a)
		if !slices.Equal(all, m.l) || !bytes.Equal(b, m.bytes()) {
			t.Fatalf("of %v: an answer changed with the array", m.l)
		}
	})
}

// P12.3: what Parse answers shares nothing with its bytes, nor the array with the rest.
func TestParsedIsApart(t *testing.T) {
	eachModel(func(m model) {
		behind := []byte{9, 8, 7}
		room := append(append(m.bytes(), behind...), 0xAA, 0xAA)
		was := bytes.Clone(room)
		b := room[:len(room)-2]
		a, rest, e := packed.Parse(b)
		if e != api.OK || !bytes.Equal(room, was) {
			t.Fatalf("Parse(%x): %d, then %x", b, e, room)
		}
		turned(a)
		if !bytes.Equal(room, was) || !bytes.Equal(rest, behind) {
			t.Fatalf("the bytes or the rest changed with the array")
		}
		spoil(rest, 0x55)
		agree(t, "Parse, behind the rest's change", a, m.turned())
		if !bytes.Equal(room, was) {
			t.Fatalf("the bytes changed with the rest")
		}
		a, rest, _ = packed.Parse(b)
		spoil(b, 0xFF)
		agree(t, "Parse, behind the bytes' change", a, m)
		if !bytes.Equal(rest, behind) {
			t.Fatalf("the rest changed with the bytes")
		}
	})
}

// The rule of what is handed in: numbers are neither kept nor changed, nor what stands behind them.
func TestWhatIsHandedInIsApart(t *testing.T) {
	eachModel(func(m model) {
		room := append(slices.Clone(m.l), -7, -7)
		was := slices.Clone(room)
		l := room[:len(m.l)]
		n, _ := packed.New(m.width, l...)
		f, _ := packed.Fit(l...)
		x, _ := packed.New(m.width)
		x.Add(l...)
		turned(n)
		turned(f)
		turned(x)
		if !slices.Equal(room, was) {
			t.Fatalf("the numbers are %v, want %v", room, was)
		}
		n, _ = packed.New(m.width, l...)
		f, _ = packed.Fit(l...)
		x, _ = packed.New(m.width)
		x.Add(l...)
		spoil(l, 1)
		agree(t, "New", n, m)
		agree(t, "Add", x, m)
		if !slices.Equal(f.All(), m.l) {
			t.Fatalf("Fit's array changed with the numbers")
		}
	})
}

// P12.3: Same and what only asks change nothing.
func TestAskingChangesNothing(t *testing.T) {
	eachModel(func(m model) {
		a, b := made(t, m), made(t, m)
		packed.Same(a, b)
		a.Copy()
		a.Len()
		a.Width()
		agree(t, "the first", a, m)
		agree(t, "the first again", a, m)
		agree(t, "the second", b, m)
	})
}

// P2: the same calls have the same answers.
func TestTheSameAgain(t *testing.T) {
	run := func() []byte {
		d := dice(7)
		a, _ := packed.New(13)
		var out []byte
		for range 300 {
			out = append(out, byte(a.Add(d.list(13, d.below(3))...)), byte(a.Set(d.below(200), d.below(8300))))
			n, e := a.At(d.below(200))
			out = append(out, byte(n), byte(n>>8), byte(e))
			out = append(out, a.Bytes()...)
		}
		return out
	}
	if !bytes.Equal(run(), run()) {
		t.Error("two runs differ")
	}
}
