package induce_test

import (
	"slices"
	"testing"

	"incipit/api"
	"incipit/induce"
	"incipit/suffix"
)

// eachOfMany: all texts of a few codes, and many longer ones, up to the longest.
func eachOfMany(do func(text []int)) {
	eachShort(do)
	eachLong([]int{1, 2, 3, 10, 64, 333, 3000}, do)
	n := 65536
	for _, i := range []int{0, 1, 2, 3, 4, 5, 9, 14, 17, 18, 19, 20, 22} {
		code := shapes(n)[i]
		do(drawn(n, func(i int) int { return min(code(i), 65535) }))
	}
}

// byPieces: does the one piece stand ahead of the other one, or are they alike? Where one is the beginning of the other,
// its last place is of kind S, and there the longer one is of kind L, which is less.
func byPieces(a, b []int) bool {
	for i := range min(len(a), len(b)) {
		if a[i] != b[i] {
			return a[i] < b[i]
		}
	}
	return len(a) >= len(b)
}

// piecesOf: of each first S its codes, cut from the text from one to the next.
func piecesOf(text, firsts []int) map[int][]int {
	l := map[int][]int{}
	for i, at := range firsts {
		if i == len(firsts)-1 {
			l[at] = text[at:]
		} else {
			l[at] = text[at : firsts[i+1]+1]
		}
	}
	return l
}

// P16.3: from the first Ss in the order of their suffixes all suffixes' order is induced.
func TestFromOrderComesOrder(t *testing.T) {
	eachOfMany(func(text []int) {
		want, e := suffix.Sort(text)
		if e != api.OK {
			t.Fatalf("Sort of %d codes: %d", len(text), e)
		}
		firsts, _ := suffix.Firsts(text)
		var inOrder []int
		for _, place := range want {
			if _, is := slices.BinarySearch(firsts, place); is {
				inOrder = append(inOrder, place)
			}
		}
		order, e := induce.Induce(text, inOrder...)
		wantList(t, "Induce", text, order, e, want)
	})
}

// P16.3: in any order that is induced all places stand, and the first Ss by their pieces; so their names are the reduced text's.
func TestFirstsStandByPieces(t *testing.T) {
	eachOfMany(func(text []int) {
		firsts, _ := suffix.Firsts(text)
		pieces := piecesOf(text, firsts)
		want, e := induce.Reduced(text)
		if e != api.OK {
			t.Fatalf("Reduced of %d codes: %d", len(text), e)
		}
		for _, told := range [][]int{firsts, back(firsts), mixed(firsts, 1), mixed(firsts, 2)} {
			order, e := induce.Induce(text, told...)
			if e != api.OK || !sameOnes(order, rising(len(text))) {
				t.Fatalf("Induce of %d codes: %d places, %d", len(text), len(order), e)
			}
			var ahead []int
			for _, place := range order {
				p, is := pieces[place]
				if is && ahead != nil && !byPieces(ahead, p) {
					t.Fatalf("in the order of %d codes %v stands ahead of %v", len(text), ahead, p)
				}
				if is {
					ahead = p
				}
			}
			l, count, e := induce.Names(text, order)
			wantList(t, "Names", text, l, e, want)
			if len(l) > 0 && count != slices.Max(l)+1 {
				t.Fatalf("%d names of %d codes, the greatest one %d", count, len(text), slices.Max(l))
			}
		}
	})
}

// P16.3: the reduced text is one, if there is more than one first S; its last name alone is 0; it has at most half as many.
func TestReducedIsText(t *testing.T) {
	eachOfMany(func(text []int) {
		firsts, _ := suffix.Firsts(text)
		l, e := induce.Reduced(text)
		if e != api.OK || len(l) != len(firsts) || len(l) > len(text)/2 {
			t.Fatalf("Reduced of %d codes: %d names of %d, %d", len(text), len(l), len(firsts), e)
		}
		if len(l) > 0 && slices.Index(l, 0) != len(l)-1 {
			t.Fatalf("Reduced(%v) = %v: not just its last name is 0", text, l)
		}
		if e := suffix.Check(l); len(l) > 1 && e != api.OK {
			t.Fatalf("Reduced(%v) = %v is no text: %d", text, l, e)
		}
	})
}

// P16.3: so the order of the reduced text, taken back, tells the order of all.
func TestReducedTellsTheOrder(t *testing.T) {
	eachOfMany(func(text []int) {
		reduced, _ := induce.Reduced(text)
		if len(reduced) < 2 {
			return
		}
		order, e := suffix.Sort(reduced)
		if e != api.OK {
			t.Fatalf("Sort of a reduced text: %d", e)
		}
		firsts, e := induce.Back(text, order)
		if e != api.OK {
			t.Fatalf("Back of %d numbers: %d", len(order), e)
		}
		want, _ := suffix.Sort(text)
		got, e := induce.Induce(text, firsts...)
		wantList(t, "Induce", text, got, e, want)
	})
}
