package induce_test

import (
	"slices"
	"testing"

	"incipit/api"
	"incipit/induce"
)

// handed is what is handed in: a text, its first Ss, an order of all places, and one of the first Ss' numbers.
type handed struct{ text, firsts, order, numbers []int }

// handedOf: of a model, with room behind each list.
func handedOf(m model) handed {
	room := func(l []int) []int { return append(slices.Clone(l), -7, -7)[:len(l)] }
	all := rising(len(m.firsts))
	return handed{text: room(m.text), firsts: room(back(m.firsts)), order: room(m.induced(m.firsts)), numbers: room(back(all))}
}

// lists: all of it, with the room behind.
func (h handed) lists() [][]int {
	l := [][]int{h.text, h.firsts, h.order, h.numbers}
	for i := range l {
		l[i] = l[i][:len(l[i])+2]
	}
	return l
}

// asked: all lists that are answered.
func (h handed) asked() [][]int {
	heads, _ := induce.Heads(h.text)
	tails, _ := induce.Tails(h.text)
	order, _ := induce.Induce(h.text, h.firsts...)
	names, _, _ := induce.Names(h.text, h.order)
	reduced, _ := induce.Reduced(h.text)
	firsts, _ := induce.Back(h.text, h.numbers)
	return [][]int{heads, tails, order, names, reduced, firsts}
}

// clones: lists in memory of their own.
func clones(l [][]int) [][]int {
	var to [][]int
	for _, x := range l {
		to = append(to, slices.Clone(x))
	}
	return to
}

// sameLists: are they the same?
func sameLists(a, b [][]int) bool { return slices.EqualFunc(a, b, slices.Equal[[]int]) }

// What is handed in isn't changed, nor what stands behind it, also where it is wrong; answers don't change with it.
func TestHandedInIsApart(t *testing.T) {
	eachLong([]int{1, 2, 3, 8, 60}, func(text []int) {
		h := handedOf(of(text))
		was := clones(h.lists())
		got := h.asked()
		want := clones(got)
		induce.Induce(h.text, h.order...)
		induce.Names(h.text, h.firsts)
		induce.Back(h.text, h.order)
		induce.Induce(h.order, h.text...)
		induce.Names(h.order, h.text)
		if !sameLists(h.lists(), was) {
			t.Fatalf("what was handed in is changed: %v, was %v", h.lists(), was)
		}
		for _, l := range h.lists() {
			spoil(l, 3)
			if !sameLists(got, want) {
				t.Fatal("an answer changed with what was handed in")
			}
		}
	})
}

// What is handed in doesn't change with the answers, nor an answer with another one, nor those of the next calls.
func TestAnswersAreApart(t *testing.T) {
	eachLong([]int{1, 2, 3, 8, 60}, func(text []int) {
		h := handedOf(of(text))
		was := clones(h.lists())
		first, second := h.asked(), h.asked()
		want := clones(first)
		for i := range first {
			spoil(first[i], -5)
			if !sameLists(h.lists(), was) {
				t.Fatal("what was handed in changed with an answer")
			}
			if !sameLists(first[i+1:], want[i+1:]) || !sameLists(second, want) {
				t.Fatal("an answer changed with another one")
			}
		}
		if !sameLists(h.asked(), want) {
			t.Fatal("answers of the next calls changed")
		}
	})
}

// P2: the same calls have the same answers, whatever was asked between them.
func TestTheSameAgain(t *testing.T) {
	run := func() [][]int {
		var seed uint32 = 5
		var l [][]int
		for range 200 {
			text := drawn(1+next(&seed, 60), func(int) int { return 1 + next(&seed, 4) })
			m := of(text)
			l = append(l, handedOf(m).asked()...)
			names, count, e := induce.Names(text, mixed(rising(len(text)), seed))
			_, e2 := induce.Induce(text, mixed(m.firsts, seed)[:max(0, len(m.firsts)-next(&seed, 2))]...)
			_, e3 := induce.Back(text, rising(next(&seed, 5)))
			l = append(l, names, []int{count, int(e), int(e2), int(e3)})
		}
		return l
	}
	if !sameLists(run(), run()) {
		t.Error("two runs differ")
	}
}

// P1: an error has nothing beside it, whatever is handed in for a text, a list and an order.
func TestWhateverIsHandedIn(t *testing.T) {
	var seed uint32 = 77
	draw := func() []int {
		l := make([]int, next(&seed, 6))
		for i := range l {
			l[i] = next(&seed, 8) - 1
		}
		if next(&seed, 3) > 0 {
			l = append(l, 0)
		}
		return l
	}
	for range 100000 {
		text, told := draw(), draw()
		wantText := wrong(text)
		m := of(text)
		want := func(right bool) api.Errno {
			switch {
			case wantText != api.OK:
				return wantText
			case !right:
				return api.ErrForm
			}
			return api.OK
		}
		for _, call := range []struct {
			what  string
			do    func() ([]int, int, api.Errno)
			right bool
		}{
			{"Induce", func() ([]int, int, api.Errno) { l, e := induce.Induce(text, told...); return l, 0, e }, sameOnes(told, m.firsts)},
			{"Names", func() ([]int, int, api.Errno) { return induce.Names(text, told) }, sameOnes(told, rising(len(text)))},
			{"Back", func() ([]int, int, api.Errno) { l, e := induce.Back(text, told); return l, 0, e }, sameOnes(told, rising(len(m.firsts)))},
		} {
			l, count, e := call.do()
			if e != want(call.right) || e != api.OK && (len(l) > 0 || count != 0) {
				t.Fatalf("%s(%v, %v) = %v %d %d, want %d", call.what, text, told, l, count, e, want(call.right))
			}
		}
	}
}
