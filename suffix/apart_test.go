package suffix_test

import (
	"slices"
	"testing"

	"incipit/suffix"
)

// answers: what is told of a text and its order, all of it new.
type answers struct {
	kinds []bool
	lists [][]int
}

// asked: all lists that are told of a text, handed in with its order.
func asked(text, order []int) answers {
	kinds, _ := suffix.Kinds(text)
	firsts, _ := suffix.Firsts(text)
	sorted, _ := suffix.Sort(text)
	commons, _ := suffix.Commons(text, order)
	turned, _ := suffix.Turned(order...)
	a := answers{kinds: kinds, lists: [][]int{firsts, sorted, commons, turned}}
	for i := range text {
		piece, _ := suffix.Piece(text, i)
		a.lists = append(a.lists, piece)
	}
	return a
}

// copy: in memory of its own.
func (a answers) copy() answers {
	b := answers{kinds: slices.Clone(a.kinds)}
	for _, l := range a.lists {
		b.lists = append(b.lists, slices.Clone(l))
	}
	return b
}

// same: are they the same?
func (a answers) same(b answers) bool {
	return slices.Equal(a.kinds, b.kinds) && slices.EqualFunc(a.lists, b.lists, slices.Equal[[]int])
}

// P15.3, and the rule of what is handed in: it isn't changed, nor what stands behind it, and answers don't change with it.
func TestHandedInIsApart(t *testing.T) {
	eachLong([]int{1, 2, 3, 8, 60}, func(m model) {
		text := append(slices.Clone(m), -7, -7)
		order := append(m.order(), -8, -8)
		wasText, wasOrder := slices.Clone(text), slices.Clone(order)
		n := len(m)
		got := asked(text[:n], order[:n])
		want := got.copy()
		suffix.Right(text[:n], order[:n])
		suffix.Less(text[:n], 0, n/2)
		suffix.Common(text[:n], 0, n/2)
		suffix.Check(text[:n])
		if !slices.Equal(text, wasText) || !slices.Equal(order, wasOrder) {
			t.Fatalf("what was handed in is changed: %v %v", text, order)
		}
		spoil(text, 3)
		spoil(order, 3)
		if !got.same(want) {
			t.Fatal("an answer changed with what was handed in")
		}
	})
}

// P15.3: what is handed in doesn't change with the answers, nor an answer with another one, nor those of the next calls.
func TestAnswersAreApart(t *testing.T) {
	eachLong([]int{1, 2, 3, 8, 60}, func(m model) {
		text, order := slices.Clone(m), m.order()
		first, second := asked(text, order), asked(text, order)
		want := first.copy()
		for i := range first.lists {
			spoil(first.lists[i], -5)
			first.lists[i] = nil
			if !slices.Equal(text, m) || !slices.Equal(order, m.order()) {
				t.Fatal("what was handed in changed with an answer")
			}
			for k, l := range first.lists[i+1:] {
				if !slices.Equal(l, want.lists[i+1+k]) {
					t.Fatal("an answer changed with another one")
				}
			}
		}
		spoil(first.kinds, true)
		if !second.same(want) || !asked(text, order).same(want) {
			t.Fatal("answers of other calls changed")
		}
		spoil(second.kinds, false)
		if !asked(text, order).same(want) {
			t.Fatal("answers of other calls changed")
		}
	})
}

// P15.3: what is turned twice is new memory each time, too.
func TestTurnedOfTurnedIsApart(t *testing.T) {
	order := []int{2, 0, 1}
	l, _ := suffix.Turned(order...)
	again, _ := suffix.Turned(l...)
	spoil(l, 9)
	if !slices.Equal(again, order) {
		t.Errorf("%v changed with %v", again, l)
	}
	spoil(again, 9)
	if !slices.Equal(order, []int{2, 0, 1}) {
		t.Errorf("%v is changed", order)
	}
}

// P2: the same calls have the same answers.
func TestTheSameAgain(t *testing.T) {
	run := func() []int {
		var seed uint32 = 5
		var l []int
		for range 300 {
			m := drawn(1+next(&seed, 40), func(int) int { return next(&seed, 5) })
			order, e := suffix.Sort(m)
			commons, e2 := suffix.Commons(m, order)
			piece, e3 := suffix.Piece(m, next(&seed, 40))
			is, e4 := suffix.Less(m, next(&seed, 40), next(&seed, 40))
			n, e5 := suffix.Common(m, next(&seed, 40), next(&seed, 40))
			if is {
				n += 1000
			}
			l = append(l, int(e), int(e2), int(e3), int(e4), int(e5), int(suffix.Check(m)), n)
			l = slices.Concat(l, order, commons, piece)
		}
		return l
	}
	if !slices.Equal(run(), run()) {
		t.Error("two runs differ")
	}
}
