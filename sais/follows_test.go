package sais_test

import (
	"slices"
	"testing"

	"incipit/api"
	"incipit/induce"
	"incipit/sais"
	"incipit/suffix"
)

// eachOfMany: all texts of a few codes, and many longer ones, up to the longest.
func eachOfMany(do func(m model)) {
	eachShort(do)
	eachLong([]int{1, 2, 3, 10, 64, 333, 3000, 65536}, do)
}

// P17.3: the order is that of the suffixes, whatever the text is; the ranks are that order turned.
func TestOrderIsRight(t *testing.T) {
	eachOfMany(func(m model) {
		order, e := sais.Order(m...)
		if e != api.OK || !suffix.Right(m, order) {
			t.Fatalf("Order of %d codes %v: %d places, %d", len(m), m[:min(len(m), 20)], len(order), e)
		}
		want, e := suffix.Sort(m)
		wantList(t, "Order", m, order, e, want)
		l, e := sais.Ranks(m...)
		wantList(t, "Ranks", m, l, e, ranks(order))
		turned, e := suffix.Turned(l...)
		wantList(t, "Ranks, turned", m, turned, e, order)
	})
}

// P17.3: so each row's suffix is above that of the row ahead, code by code.
func TestRowsRise(t *testing.T) {
	eachLong([]int{2000, 65536}, func(m model) {
		order, _ := sais.Order(m...)
		commons, e := suffix.Commons(m, order)
		if e != api.OK {
			t.Fatalf("Commons of %d codes: %d", len(m), e)
		}
		for row := 1; row < len(order); row++ {
			a, b, n := order[row-1], order[row], commons[row]
			if m[a+n] >= m[b+n] {
				t.Fatalf("rows %d and %d of %d codes aren't in order behind %d codes", row-1, row, len(m), n)
			}
			// Some are held against each other code by code, as far as they are told to be alike.
			if row%997 == 0 && !slices.Equal(m[a:a+n], m[b:b+n]) {
				t.Fatalf("rows %d and %d aren't alike for %d codes", row-1, row, n)
			}
		}
	})
}

// P17.3: each level's order tells that of the one ahead: taken back, and induced from.
func TestLevelsTellTheOrder(t *testing.T) {
	eachOfMany(func(m model) {
		texts, e := sais.Levels(m...)
		if e != api.OK {
			t.Fatalf("Levels of %d codes: %d", len(m), e)
		}
		for i, text := range texts[1:] {
			below, e := sais.Order(text...)
			if e != api.OK {
				t.Fatalf("Order of a level of %d codes: %d", len(text), e)
			}
			firsts, e := induce.Back(texts[i], below)
			if e != api.OK {
				t.Fatalf("Back of %d numbers: %d", len(below), e)
			}
			want, e := induce.Induce(texts[i], firsts...)
			if e != api.OK {
				t.Fatalf("Induce of %d codes: %d", len(texts[i]), e)
			}
			order, e := sais.Order(texts[i]...)
			wantList(t, "Order", texts[i], order, e, want)
		}
	})
}

// P17.3: the levels of a level are those that stand behind it, and it.
func TestLevelsOfLevels(t *testing.T) {
	eachLong([]int{3, 10, 300, 5000, 65536}, func(m model) {
		texts, _ := sais.Levels(m...)
		for i, text := range texts {
			l, e := sais.Levels(text...)
			wantLevels(t, text, l, e, texts[i:])
		}
	})
}

// P17.3: documents' order is that of their text.
func TestBytesIsOrderOfText(t *testing.T) {
	for _, n := range []int{1, 2, 10, 100, 5000, 65536} {
		for _, size := range []int{0, 1, 3, 100, 1024} {
			docs := cut(n, size)
			want, e := sais.Order(docsText(docs)...)
			if e != api.OK {
				t.Fatalf("Order of %d symbols: %d", n, e)
			}
			order, e := sais.Bytes(docs...)
			wantList(t, "Bytes", docsText(docs), order, e, want)
		}
	}
}
