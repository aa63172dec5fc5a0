package sais_test

import (
	"bytes"
	"slices"
	"testing"

	"incipit/api"
	"incipit/sais"
)

// handed is what is handed in: a text, and documents.
type handed struct {
	text []int
	docs [][]byte
}

// handedOf: a text, and documents of its codes, with room behind each list.
func handedOf(m model) handed {
	h := handed{text: append(slices.Clone(m), -7, -7)[:len(m)]}
	for i := 0; i < len(m); i += 5 {
		doc := []byte{}
		for _, code := range m[i:min(i+5, len(m))] {
			doc = append(doc, byte(code))
		}
		h.docs = append(h.docs, append(doc, 7, 7)[:len(doc)])
	}
	h.docs = append(h.docs, nil, []byte("behind"))[:len(h.docs)]
	return h
}

// copy: all of it in memory of its own, with the room behind.
func (h handed) copy() handed {
	c := handed{text: slices.Clone(h.text[:len(h.text)+2])}
	for _, doc := range h.docs[:len(h.docs)+2] {
		c.docs = append(c.docs, slices.Clone(doc[:cap(doc)]))
	}
	return c
}

// same: is it what that copy is?
func (h handed) same(c handed) bool {
	now := h.copy()
	return slices.Equal(now.text, c.text) && slices.EqualFunc(now.docs, c.docs, bytes.Equal)
}

// asked: all lists that are answered, the levels behind the others.
func (h handed) asked() [][]int {
	order, _ := sais.Order(h.text...)
	l, _ := sais.Ranks(h.text...)
	ofDocs, _ := sais.Bytes(h.docs...)
	texts, _ := sais.Levels(h.text...)
	return append([][]int{order, l, ofDocs}, texts...)
}

// clones: lists in memory of their own.
func clones(l [][]int) [][]int {
	var to [][]int
	for _, x := range l {
		to = append(to, slices.Clone(x))
	}
	return to
}

// sameLists: are they the same?
func sameLists(a, b [][]int) bool { return slices.EqualFunc(a, b, slices.Equal[[]int]) }

// eachApart: texts of many shapes, of one level and of several.
func eachApart(do func(m model)) {
	for _, c := range namedTexts {
		do(c.text)
	}
	eachLong([]int{1, 2, 3, 8, 60, 320}, do)
}

// P17.3, and the rule of what is handed in: it isn't changed, nor what stands behind it; answers don't change with it.
func TestHandedInIsApart(t *testing.T) {
	eachApart(func(m model) {
		h := handedOf(m)
		was := h.copy()
		got := h.asked()
		want := clones(got)
		sais.Unlike(h.text)
		if !h.same(was) {
			t.Fatalf("what was handed in is changed: %v, was %v", h, was)
		}
		spoil(h.text, 3)
		for _, doc := range h.docs {
			spoil(doc, 3)
		}
		spoil(h.docs, nil)
		if !sameLists(got, want) {
			t.Fatal("an answer changed with what was handed in")
		}
	})
}

// The same of what is refused.
func TestRefusedIsApart(t *testing.T) {
	for _, m := range wrongTexts() {
		was := slices.Clone(m)
		refused(t, m)
		sais.Unlike(m)
		if !slices.Equal(m, was) {
			t.Fatalf("what was refused is changed: %v", m[:min(len(m), 20)])
		}
	}
}

// P17.3: what is handed in doesn't change with the answers, nor one answer or level with another one, nor those of the next calls.
func TestAnswersAreApart(t *testing.T) {
	eachApart(func(m model) {
		h := handedOf(m)
		was := h.copy()
		first, second := h.asked(), h.asked()
		want := clones(first)
		for i := range first {
			spoil(first[i], -5)
			if !h.same(was) {
				t.Fatal("what was handed in changed with an answer")
			}
			if !sameLists(first[i+1:], want[i+1:]) || !sameLists(second, want) {
				t.Fatal("an answer changed with another one")
			}
		}
		if !sameLists(h.asked(), want) {
			t.Fatal("answers of the next calls changed")
		}
	})
}

// P17.3: no level changes with one that stands ahead of it or behind it, nor with the text.
func TestLevelsAreApart(t *testing.T) {
	eachApart(func(m model) {
		text := slices.Clone(m)
		want, _ := sais.Levels(text...)
		for i := range want {
			l, _ := sais.Levels(text...)
			spoil(l[i], 9)
			l[i] = want[i]
			wantLevels(t, m, l, api.OK, want)
			if !slices.Equal(text, m) {
				t.Fatal("the text changed with a level")
			}
		}
		spoil(text, 9)
		again, e := sais.Levels(m...)
		wantLevels(t, m, want, e, again)
	})
}

// P2: the same calls have the same answers, whatever was asked between them.
func TestTheSameAgain(t *testing.T) {
	run := func() [][]int {
		var seed uint64 = 5
		var l [][]int
		for range 300 {
			m := drawn(1+next(&seed, 60), func(int) int { return next(&seed, 5) })
			order, e := sais.Order(m...)
			texts, e2 := sais.Levels(m...)
			rows, e3 := sais.Ranks(m...)
			ofDocs, e4 := sais.Bytes(cut(1+next(&seed, 40), next(&seed, 9))...)
			is := 0
			if sais.Unlike(m) {
				is = 1
			}
			l = append(append(l, order, rows, ofDocs, []int{int(e), int(e2), int(e3), int(e4), is, sais.Deepest(len(m))}), texts...)
		}
		return l
	}
	if !sameLists(run(), run()) {
		t.Error("two runs differ")
	}
}

// P1: whatever is handed in, a text is ordered and all else is refused, with nothing beside the error.
func TestWhateverIsHandedIn(t *testing.T) {
	var seed uint64 = 77
	met := map[api.Errno]int{}
	for range 20000 {
		m := make(model, next(&seed, 7))
		for i := range m {
			m[i] = next(&seed, 6) - next(&seed, 40)/39
			if next(&seed, 50) == 0 {
				m[i] = 65530 + next(&seed, 8)
			}
		}
		if next(&seed, 3) > 0 {
			m = append(m, 0)
		}
		met[m.wrong()]++
		if m.wrong() != api.OK {
			refused(t, m)
			continue
		}
		agree(t, m)
	}
	if len(met) != 3 {
		t.Errorf("not all was met: %v", met)
	}
}
