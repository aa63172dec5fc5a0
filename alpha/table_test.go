package alpha_test

import (
	"slices"
	"testing"

	"incipit/alpha"
	"incipit/api"
)

// P14.1, P14.2: codes, counts and C are those that counting one by one tells.
func TestTable(t *testing.T) {
	eachModel(func(m model) { agree(t, "New", made(t, m), m) })
	eachDocs(func(docs [][]byte) {
		text, _ := alpha.Text(docs...)
		agree(t, "New of a text", made(t, text), text)
	})
}

// P14.1, P14.2: no symbols, each one alone, pairs of them, and all.
func TestTableOfFewSymbols(t *testing.T) {
	agree(t, "New of none", made(t, nil), nil)
	for a := range 258 {
		agree(t, "New of one", made(t, model{a}), model{a})
		agree(t, "New of one twice", made(t, model{a, a}), model{a, a})
		for _, b := range []int{0, 1, 2, 128, 256, 257} {
			agree(t, "New of two", made(t, model{a, b}), model{a, b})
		}
	}
	all := drawn(258, func(i int) int { return i })
	agree(t, "New of all", made(t, all), all)
	for i := range all {
		but := slices.Delete(slices.Clone(all), i, i+1)
		agree(t, "New of all but one", made(t, but), but)
	}
}

// P14.2: of a text of no symbols there are no codes; C of 0, which is Sigma, is 0.
func TestTableOfNone(t *testing.T) {
	for _, text := range []model{nil, {}} {
		x := made(t, text)
		if c, e := x.C(0); c != 0 || e != api.OK {
			t.Errorf("C(0) = %d %d", c, e)
		}
		if c, e := x.C(1); c != 0 || e != api.ErrRange {
			t.Errorf("C(1) = %d %d", c, e)
		}
		if x.Sigma() != 0 || x.Len() != 0 || x.Count(0) != 0 || string(x.Bytes()) != "\x00\x00" {
			t.Errorf("%d %d %d %x", x.Sigma(), x.Len(), x.Count(0), x.Bytes())
		}
	}
}

// P14.1: a text has 65536 symbols, and not one more; P14.2: they are all counted.
func TestNewOfMany(t *testing.T) {
	for _, symbol := range []func(i int) int{
		func(int) int { return 0 },
		func(int) int { return 257 },
		func(i int) int { return i % 258 },
		func(i int) int { return i % 2 },
		func(i int) int { return min(i, 200) },
	} {
		m := drawn(65538, symbol)
		for _, n := range []int{65535, 65536} {
			agree(t, "New of many", made(t, m[:n]), m[:n])
		}
		for _, n := range []int{65537, 65538} {
			x, e := alpha.New(m[:n]...)
			wantNone(t, "New of too many", x, e, api.ErrLong)
			// ErrLong is named ahead of ErrRange.
			for _, i := range []int{0, 30000, 65535, n - 1} {
				for _, wrong := range []int{-1, 258} {
					l := slices.Clone(m[:n])
					l[i] = wrong
					x, e := alpha.New(l...)
					wantNone(t, "New of too many, one of them wrong", x, e, api.ErrLong)
				}
			}
		}
		for _, i := range []int{0, 30000, 65535} {
			l := slices.Clone(m[:65536])
			l[i] = 258
			x, e := alpha.New(l...)
			wantNone(t, "New of 65536, one of them wrong", x, e, api.ErrRange)
		}
	}
}

// P14.1: a symbol that isn't from 0 to 257, wherever it stands.
func TestNewNamesWrongSymbols(t *testing.T) {
	for _, n := range noSymbols {
		for _, text := range [][]int{{n}, {n, 0}, {0, n}, {257, n, 0}, {1, 1, n, n}, {n, -n, n}, append(drawn(258, func(i int) int { return i }), n)} {
			x, e := alpha.New(text...)
			wantNone(t, "New of a wrong symbol", x, e, api.ErrRange)
		}
	}
}

// P14.2: C rises by each code's count, and Len is all.
func TestCountsAndCAgree(t *testing.T) {
	eachModel(func(m model) {
		x := made(t, m)
		sum := 0
		for code := range x.Sigma() {
			if c, e := x.C(code); c != sum || e != api.OK {
				t.Fatalf("C(%d) = %d %d behind %d", code, c, e, sum)
			}
			if x.Count(code) < 1 {
				t.Fatalf("Count(%d) = %d", code, x.Count(code))
			}
			sum += x.Count(code)
		}
		if c, e := x.C(x.Sigma()); c != sum || e != api.OK || x.Len() != sum {
			t.Fatalf("C(Sigma) = %d %d, Len %d, want %d", c, e, x.Len(), sum)
		}
	})
}

// P14.3: there and back a text is what it was, and each symbol and code.
func TestCodesAndBack(t *testing.T) {
	eachModel(func(m model) {
		x := made(t, m)
		codes, e := x.Codes(m...)
		if e != api.OK || len(codes) != len(m) {
			t.Fatalf("Codes of %d = %d %d", len(m), len(codes), e)
		}
		symbols := m.symbols()
		for i, code := range codes {
			if code != slices.Index(symbols, m[i]) {
				t.Fatalf("Codes(%v) = %v", m, codes)
			}
		}
		back, e := x.Symbols(codes...)
		if e != api.OK || !slices.Equal(back, m) {
			t.Fatalf("Symbols of Codes(%v) = %v %d", m, back, e)
		}
		again, e := x.Codes(back...)
		if e != api.OK || !slices.Equal(again, codes) {
			t.Fatalf("Codes of Symbols(%v) = %v %d", codes, again, e)
		}
		for code := range x.Sigma() {
			symbol, _ := x.Symbol(code)
			if back, e := x.Code(symbol); back != code || e != api.OK {
				t.Fatalf("Code of Symbol(%d) = %d %d", code, back, e)
			}
		}
		// Of codes the order is that of the symbols: their table has the same counts.
		y := made(t, codes)
		for code := range x.Sigma() + 1 {
			a, _ := x.C(code)
			b, _ := y.C(code)
			if a != b || x.Count(code) != y.Count(code) {
				t.Fatalf("code %d: C %d and %d", code, a, b)
			}
		}
	})
}

// P14.2: of nothing there is nothing; other texts than the table's own may be asked, as often as one likes.
func TestCodesOfOthers(t *testing.T) {
	x := made(t, model{0, 1, 99, 100, 1, 257})
	for _, c := range []struct{ symbols, codes []int }{
		{nil, nil}, {[]int{}, nil}, {[]int{0}, []int{0}}, {[]int{257}, []int{4}}, {[]int{257, 0, 257}, []int{4, 0, 4}},
		{[]int{100, 100, 100, 100, 100, 100, 100}, []int{3, 3, 3, 3, 3, 3, 3}}, {[]int{0, 1, 99, 100, 257}, []int{0, 1, 2, 3, 4}},
		{slices.Repeat([]int{99, 0}, 40000), slices.Repeat([]int{2, 0}, 40000)},
	} {
		if got, e := x.Codes(c.symbols...); e != api.OK || !slices.Equal(got, c.codes) {
			t.Errorf("Codes of %d = %d %d", len(c.symbols), len(got), e)
		}
		if got, e := x.Symbols(c.codes...); e != api.OK || !slices.Equal(got, c.symbols) {
			t.Errorf("Symbols of %d = %d %d", len(c.codes), len(got), e)
		}
	}
	none := made(t, nil)
	if l, e := none.Codes(); len(l) != 0 || e != api.OK {
		t.Errorf("Codes() of an empty table = %v %d", l, e)
	}
	if l, e := none.Symbols(); len(l) != 0 || e != api.OK {
		t.Errorf("Symbols() of an empty table = %v %d", l, e)
	}
}

// P14.2: one that isn't there, at the start, in the middle and at the end.
func TestCodesNamesWhatIsMissing(t *testing.T) {
	eachModel(func(m model) {
		if len(m) > 300 {
			return
		}
		x := made(t, m)
		all := m.symbols()
		codes := drawn(len(all), func(i int) int { return i })
		missing := slices.Clone(noSymbols)
		for symbol := range 258 {
			if m.often(symbol) == 0 {
				missing = append(missing, symbol)
			}
		}
		for _, at := range []int{0, len(all) / 2, len(all)} {
			for _, n := range missing {
				if l, e := x.Codes(slices.Insert(slices.Clone(all), at, n)...); l != nil || e != api.ErrNone {
					t.Fatalf("Codes with %d at %d = %v %d", n, at, l, e)
				}
			}
			for _, n := range append([]int{-1, len(all), len(all) + 1, 258}, far...) {
				if l, e := x.Symbols(slices.Insert(slices.Clone(codes), at, n)...); l != nil || e != api.ErrNone {
					t.Fatalf("Symbols with %d at %d = %v %d", n, at, l, e)
				}
			}
		}
	})
}

// P14.3: a nil table answers ErrState ahead of all, 0, nothing.
func TestNilTable(t *testing.T) {
	var x *alpha.Table
	for _, n := range append([]int{-1, 0, 1, 2, 257, 258}, far...) {
		code, e := x.Code(n)
		symbol, e2 := x.Symbol(n)
		c, e3 := x.C(n)
		if code != 0 || symbol != 0 || c != 0 || e != api.ErrState || e2 != e || e3 != e || x.Count(n) != 0 {
			t.Errorf("of %d: %d %d, %d %d, %d %d, %d", n, code, e, symbol, e2, c, e3, x.Count(n))
		}
	}
	for _, l := range [][]int{nil, {}, {0}, {-1}, {258, 0}, make([]int, 65537)} {
		codes, e := x.Codes(l...)
		symbols, e2 := x.Symbols(l...)
		if codes != nil || symbols != nil || e != api.ErrState || e2 != e {
			t.Errorf("of %d: %v %d, %v %d", len(l), codes, e, symbols, e2)
		}
	}
	if x.Sigma() != 0 || x.Len() != 0 || len(x.Bytes()) != 0 {
		t.Errorf("%d %d %x", x.Sigma(), x.Len(), x.Bytes())
	}
}

// P1: a table that was never made is that of no symbols.
func TestZeroTable(t *testing.T) {
	x := new(alpha.Table)
	agree(t, "the zero Table", x, nil)
	for _, l := range [][]int{{0}, {-1}, {258, 0}} {
		codes, e := x.Codes(l...)
		symbols, e2 := x.Symbols(l...)
		if codes != nil || symbols != nil || e != api.ErrNone || e2 != e {
			t.Errorf("of %v: %v %d, %v %d", l, codes, e, symbols, e2)
		}
	}
}
