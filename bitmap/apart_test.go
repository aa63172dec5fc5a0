package bitmap_test

import (
	"slices"
	"testing"

	"incipit/bitmap"
)

// turned: each number of the set is dropped, each other one added.
func turned(s *bitmap.Set) {
	for no := range s.Size() {
		if s.Drop(no) == 0 {
			s.Add(no)
		}
	}
}

func (m model) turned() model {
	return m.filtered(func(no int) bool { return !m.has(no) })
}

// P6.3: a set that is answered shares nothing with those it came from, neither way.
func TestSetsAreApart(t *testing.T) {
	eachModel(func(m model) {
		a, b := made(t, m), made(t, m)
		for name, s := range map[string]*bitmap.Set{
			"Copy":             a.Copy(),
			"Union alone":      bitmap.Union(a),
			"Union with nil":   bitmap.Union(a, nil),
			"Union of several": bitmap.Union(a, b, a, nil),
			"Common":           bitmap.Common(a, b),
			"Common, itself":   bitmap.Common(a, a),
			"Without nil":      bitmap.Without(a, nil),
			"Without":          bitmap.Without(a, made(t, m.turned())),
		} {
			agree(t, name, s, m)
			turned(s)
			agree(t, name+", turned", s, m.turned())
			agree(t, name+": the first set", a, m)
			agree(t, name+": the second set", b, m)
			turned(a)
			turned(b)
			agree(t, name+": behind the sets' change", s, m.turned())
			turned(a)
			turned(b)
		}
	})
}

// P6.3: lists and bytes that are answered are the caller's own, each time.
func TestListsAreApart(t *testing.T) {
	eachModel(func(m model) {
		s := made(t, m)
		all, runs, b := s.All(), s.Runs(), s.Bytes()
		spoil(all, -1)
		spoil(runs, bitmap.Run{From: -1, Count: -1})
		spoil(b, 0xFF)
		agree(t, "behind what was spoiled", s, m)
		all, runs, b = s.All(), s.Runs(), s.Bytes()
		turned(s)
		if !slices.Equal(all, m.all(true)) || !slices.Equal(runs, m.runs()) || !slices.Equal(b, m.bytes()) {
			t.Fatalf("of %v: an answer changed with the set", m.all(true))
		}
	})
}

// spoil: all of the list is this, what it has room for too.
func spoil[T any](l []T, with T) {
	l = l[:cap(l)]
	for i := range l {
		l[i] = with
	}
}

// P6.3, and the rule of what is handed in: numbers and bytes are neither kept nor changed, nor what stands behind them.
func TestWhatIsHandedInIsApart(t *testing.T) {
	room := []int{5, 200, 5, -1, 0, 77, 77}
	was := slices.Clone(room)
	l := room[:5]
	s, _ := bitmap.New(100, l...)
	x, _ := bitmap.New(100)
	x.Add(l...)
	x.Drop(l...)
	if !slices.Equal(room, was) {
		t.Errorf("the numbers are %v, want %v", room, was)
	}
	spoil(l, 9)
	agree(t, "New", s, modelOf(100, 0, 5))
	bytesAre := []byte{0x21, 0x80, 0xAA, 0xAA}
	b := bytesAre[:2]
	p, _ := bitmap.Parse(16, b)
	if !slices.Equal(bytesAre, []byte{0x21, 0x80, 0xAA, 0xAA}) {
		t.Errorf("the bytes are %x", bytesAre)
	}
	spoil(b, 0xFF)
	agree(t, "Parse", p, modelOf(16, 0, 5, 15))
	turned(p)
	if b[0] != 0xFF || b[1] != 0xFF {
		t.Error("the bytes changed with the set")
	}
}

// P6.3: the list of sets that Union is told isn't changed, nor are nil ones among them.
func TestSetsHandedInAreApart(t *testing.T) {
	a, b := made(t, modelOf(70, 1)), made(t, modelOf(80, 2, 79))
	l := []*bitmap.Set{b, nil, a}
	bitmap.Union(a, l...)
	if !slices.Equal(l, []*bitmap.Set{b, nil, a}) {
		t.Error("the list of sets was changed")
	}
	agree(t, "the first set", a, modelOf(70, 1))
	agree(t, "the second set", b, modelOf(80, 2, 79))
}

// P2: the same calls have the same answers.
func TestTheSameAgain(t *testing.T) {
	run := func() []byte {
		d := dice(7)
		s, _ := bitmap.New(300)
		var out []byte
		for range 200 {
			out = append(out, byte(s.Add(d.below(310), d.below(310))), byte(s.Drop(d.below(310))))
			no, e := s.Free(d.below(300))
			out = append(out, byte(no), byte(e))
			out = append(out, s.Bytes()...)
		}
		return out
	}
	if !slices.Equal(run(), run()) {
		t.Error("two runs differ")
	}
}
