package sais_test

import (
	"math"
	"slices"
	"testing"

	"incipit/api"
	"incipit/induce"
	"incipit/sais"
	"incipit/suffix"
)

// halving: how many codes each level has: at most half as many as the one ahead, and never more levels than Deepest says.
func halving(t *testing.T, m model, texts [][]int) {
	t.Helper()
	if len(texts) < 1 || len(texts) > sais.Deepest(len(m)) {
		t.Fatalf("%d levels of %d codes, at most %d", len(texts), len(m), sais.Deepest(len(m)))
	}
	for i, text := range texts[1:] {
		if len(text) > len(texts[i])/2 || len(text) < 2 {
			t.Fatalf("a level of %d codes behind one of %d", len(text), len(texts[i]))
		}
	}
}

// stepwise: each level is the reduced text of the one ahead, and only the last one has none below it.
func stepwise(t *testing.T, m model) [][]int {
	t.Helper()
	texts, e := sais.Levels(m...)
	if e != api.OK || len(texts) == 0 {
		t.Fatalf("Levels of %d codes: %d of them, %d", len(m), len(texts), e)
	}
	halving(t, m, texts)
	below := []int(m)
	for i, text := range texts {
		wantList(t, "a level", m, text, e, below)
		below, e = induce.Reduced(text)
		deeper := e == api.OK && len(below) > 1 && !unlike(text)
		if last := i == len(texts)-1; deeper == last {
			t.Fatalf("level %d of %d has %d codes, the one below would have %d: %d", i, len(texts), len(text), len(below), e)
		}
	}
	return texts
}

// P17.1: the levels, step by step, of all texts of a few codes, of longer ones, and of the longest.
func TestStepwise(t *testing.T) {
	eachShort(func(m model) { stepwise(t, m) })
	eachLong([]int{1, 2, 3, 9, 10, 33, 333, 5000, 65536}, func(m model) { stepwise(t, m) })
}

// P17.1: texts of as many levels as one of their length can have.
func TestDeepTexts(t *testing.T) {
	lengths := append(rising(700)[1:], 5119, 5120, 5121, 40959, 40960, 40961, 65535, 65536)
	for _, n := range lengths {
		m := deep(n)
		if len(m) != n || m.wrong() != api.OK {
			t.Fatalf("no text of %d codes: %d codes, %d", n, len(m), m.wrong())
		}
		texts := stepwise(t, m)
		if len(texts) != most(n) {
			t.Fatalf("%d levels of %d codes, want %d", len(texts), n, most(n))
		}
		if n >= 10 {
			wantList(t, "the second level", m, texts[1], api.OK, deep(n/2))
		}
	}
	if texts, _ := sais.Levels(deep(65536)...); len(texts) != 15 {
		t.Errorf("%d levels of the longest text", len(texts))
	}
}

// P17.1: no text of a few codes has more levels than that, and some text of each length has as many.
func TestNoneIsDeeper(t *testing.T) {
	met := make([]int, 13)
	eachShort(func(m model) {
		texts, _ := sais.Levels(m...)
		if len(texts) > most(len(m)) {
			t.Fatalf("%v has %d levels", m, len(texts))
		}
		met[len(m)] = max(met[len(m)], len(texts))
	})
	for n := 1; n < 10; n++ {
		if met[n] != most(n) {
			t.Errorf("of %d codes %d levels at most, want %d", n, met[n], most(n))
		}
	}
}

// P17.1: texts that repeat one piece have few levels, and many where the piece has, or where it is repeated by turns.
func TestLevelsOfRepeated(t *testing.T) {
	for _, c := range []struct {
		what string
		m    model
		want int
	}{
		{"1", repeated(65536, 1), 1},
		{"1 2", repeated(65536, 1, 2), 2},
		{"2 1", repeated(65536, 2, 1), 2},
		{"1 2 3", repeated(65536, 1, 2, 3), 2},
		{"3 2 1", repeated(65536, 3, 2, 1), 2},
		{"a piece of three levels", repeated(65536, deep(10)[:9]...), 3},
		{"a piece of five", repeated(65536, deep(40)[:39]...), 5},
		{"1 and 2 by turns, as ones of a number are even", drawn(65536, func(i int) int { return 1 + ones(i)%2 }), 10},
		{"1 and 1 2, each made of the two ahead", drawn(65536, fibonacci(65536)), 11},
	} {
		texts := stepwise(t, c.m)
		if len(texts) != c.want {
			t.Errorf("%s: %d levels, want %d", c.what, len(texts), c.want)
		}
		order, e := sais.Order(c.m...)
		want, _ := suffix.Sort(c.m)
		wantList(t, c.what, c.m, order, e, want)
	}
}

// P17.1: Unlike.
func TestUnlike(t *testing.T) {
	many := mixed(rising(100000), 4)
	for _, c := range []struct {
		what  string
		names []int
		want  bool
	}{
		{"nothing", nil, true},
		{"an empty list", []int{}, true},
		{"one", []int{5}, true},
		{"0", []int{0}, true},
		{"one below 0", []int{-1}, true},
		{"two", []int{1, 2}, true},
		{"two alike", []int{1, 1}, false},
		{"two alike that are 0", []int{0, 0}, false},
		{"two alike below 0", []int{-3, 4, -3}, false},
		{"one and its negative", []int{3, -3, 0}, true},
		{"below 0", []int{-1, -2, -3, -65536}, true},
		{"the first and the last one", []int{7, 1, 2, 3, 7}, false},
		{"side by side", []int{1, 2, 7, 7, 3}, false},
		{"side by side, first", []int{7, 7, 1, 2, 3}, false},
		{"side by side, last", []int{1, 2, 3, 7, 7}, false},
		{"all alike", []int{4, 4, 4, 4}, false},
		{"falling", []int{4, 3, 2, 1}, true},
		{"rising", []int{1, 2, 3, 4}, true},
		{"the greatest and the least", []int{math.MaxInt, math.MinInt, math.MaxInt - 1, math.MinInt + 1}, true},
		{"the greatest twice", []int{math.MaxInt, 1, math.MaxInt}, false},
		{"the least twice", []int{math.MinInt, 1, math.MinInt}, false},
		{"alike in their low 16 bits", []int{1, 65537}, true},
		{"alike in their low 32 bits", []int{1, 1<<32 + 1}, true},
		{"many", many, true},
		{"many, the first one again", append(slices.Clone(many), many[0]), false},
		{"many, the last one again", append(slices.Clone(many), many[len(many)-1]), false},
		{"many, one below 0", append(slices.Clone(many), -1), true},
	} {
		if is := sais.Unlike(c.names); is != c.want {
			t.Errorf("Unlike of %s = %v", c.what, is)
		}
	}
	for n := range 7 {
		eachList(n, []int{-2, -1, 0, 1, 70000}, func(l []int) {
			if is := sais.Unlike(l); is != unlike(l) {
				t.Fatalf("Unlike(%v) = %v", l, is)
			}
		})
	}
}

// P17.1: Deepest.
func TestDeepest(t *testing.T) {
	for n, want := range []int{0, 1, 2, 2, 3, 3, 3, 3, 4} {
		if got := sais.Deepest(n); got != want {
			t.Errorf("Deepest(%d) = %d, want %d", n, got, want)
		}
	}
	for _, c := range []struct{ n, want int }{
		{-1, 0}, {-2, 0}, {-65536, 0}, {math.MinInt, 0}, {math.MinInt + 1, 0}, {-1 << 32, 0},
		{2001, 11}, {65535, 16}, {65536, 17}, {65537, 17}, {math.MaxInt, 63}, {math.MaxInt - 1, 63},
	} {
		if got := sais.Deepest(c.n); got != c.want {
			t.Errorf("Deepest(%d) = %d, want %d", c.n, got, c.want)
		}
	}
	for power := range 63 {
		n := 1 << power
		for _, n := range []int{n - 1, n, n + 1, -n} {
			if got := sais.Deepest(n); got != deepest(n) {
				t.Errorf("Deepest(%d) = %d, want %d", n, got, deepest(n))
			}
		}
	}
	for n := -100; n < 70000; n++ {
		if got := sais.Deepest(n); got != deepest(n) {
			t.Fatalf("Deepest(%d) = %d, want %d", n, got, deepest(n))
		}
	}
}
