package alpha_test

import (
	"bytes"
	"math"
	"slices"
	"testing"

	"incipit/alpha"
	"incipit/api"
	"incipit/varint"
)

// model is a text, of which all is counted symbol by symbol.
type model []int

// count: how many of its symbols are so.
func (m model) count(is func(symbol int) bool) int {
	n := 0
	for _, symbol := range m {
		if is(symbol) {
			n++
		}
	}
	return n
}

// often: how often a symbol is.
func (m model) often(symbol int) int {
	return m.count(func(other int) bool { return other == symbol })
}

// symbols: those that are in it, in order; so each one's place is its code.
func (m model) symbols() []int {
	var l []int
	for symbol := range 258 {
		if m.often(symbol) > 0 {
			l = append(l, symbol)
		}
	}
	return l
}

// bytes: two lists, each a count and all of them.
func (m model) bytes() []byte {
	symbols := m.symbols()
	b := varint.Put(len(symbols))
	for _, symbol := range symbols {
		b = append(b, varint.Put(symbol)...)
	}
	b = append(b, varint.Put(len(symbols))...)
	for _, symbol := range symbols {
		b = append(b, varint.Put(m.often(symbol))...)
	}
	return b
}

// repeated: a text in which each symbol is so often, as far as a text may be
// long, and one symbol more.
func repeated(symbols, counts []int) model {
	var m model
	for i, symbol := range symbols {
		for n := 0; n < counts[i] && len(m) <= 65536; n++ {
			m = append(m, symbol)
		}
	}
	return m
}

// parsed: a text whose table has these bytes, and what is left of them. They
// are a table's if just the table of such a text has them.
func parsed(b []byte) (model, []byte, api.Errno) {
	symbols, rest, e := varint.GetList(b)
	if e != api.OK {
		return nil, nil, e
	}
	counts, rest, e := varint.GetList(rest)
	if e != api.OK {
		return nil, nil, e
	}
	if len(symbols) != len(counts) {
		return nil, nil, api.ErrForm
	}
	m := repeated(symbols, counts)
	if len(m) > 65536 || !bytes.Equal(m.bytes(), b[:len(b)-len(rest)]) {
		return nil, nil, api.ErrForm
	}
	return m, rest, api.OK
}

// texted: documents' text, symbol by symbol, however long.
func texted(docs [][]byte) model {
	var m model
	for _, doc := range docs {
		for _, c := range doc {
			m = append(m, 2+int(c))
		}
		m = append(m, 1)
	}
	return append(m, 0)
}

// parted: the documents of a text. It is documents' text if just they have it.
func parted(text []int) ([][]byte, api.Errno) {
	docs, doc := [][]byte{}, []byte{}
	for _, symbol := range text {
		if symbol == 1 {
			docs, doc = append(docs, doc), []byte{}
		} else {
			doc = append(doc, byte(symbol-2))
		}
	}
	if len(text) > 65536 || !slices.Equal(texted(docs), text) {
		return nil, api.ErrForm
	}
	return docs, api.OK
}

// far is far off whatever a symbol or a code may be.
var far = []int{math.MinInt, math.MinInt + 1, -1 << 32, -65536, -259, -258, -257, -256, -2, 259, 260, 511, 512, 514, 515, 65535, 65536, 65537, 1 << 32, 1<<32 + 2, math.MaxInt - 1, math.MaxInt}

// noSymbols are in no text.
var noSymbols = append([]int{-1, 258}, far...)

// next has no chance in it: the same numbers each time.
func next(seed *uint32, below int) int {
	*seed = *seed*1664525 + 1013904223
	return int(*seed>>8) % below
}

// drawn: a text of n symbols, each as it is told.
func drawn(n int, symbol func(i int) int) model {
	m := model{}
	for i := range n {
		m = append(m, symbol(i))
	}
	return m
}

// eachModel: texts of many shapes.
func eachModel(do func(m model)) {
	var seed uint32 = 3
	for _, n := range []int{0, 1, 2, 3, 5, 8, 100, 257, 258, 259, 600, 1500} {
		for _, symbol := range []func(i int) int{
			func(int) int { return 0 },
			func(int) int { return 257 },
			func(int) int { return 1 },
			func(i int) int { return i % 258 },
			func(i int) int { return 257 - i%258 },
			func(i int) int { return i % 2 * 257 },
			func(i int) int { return 2 + i*i%256 },
			func(i int) int { return i % 129 * 2 },
			func(i int) int { return min(i, 257) },
			func(int) int { return next(&seed, 258) },
			func(int) int { return next(&seed, 4) },
			func(int) int { return 250 + next(&seed, 8) },
			func(int) int { return next(&seed, 1+next(&seed, 258)) },
		} {
			do(drawn(n, symbol))
		}
	}
}

// eachDocs: documents of many shapes.
func eachDocs(do func(docs [][]byte)) {
	all := make([]byte, 256)
	for i := range all {
		all[i] = byte(i)
	}
	for _, docs := range [][][]byte{
		nil, {}, {nil}, {{}}, {nil, {}}, {nil, nil, nil}, {{0}}, {{255}}, {{0, 255}}, {{1}}, {{2}}, {{0, 0}, {0}},
		{[]byte("ab"), {}}, {{}, []byte("ab")}, {{}, []byte("ab"), {}}, {[]byte("ab"), {}, []byte("c")}, {{}, {}, []byte("x"), nil, {}, []byte("y"), {}},
		{[]byte("abra"), []byte("bra")}, {[]byte("a"), []byte("a"), []byte("a")}, {all}, {all, all}, {{}, all, {}, all[200:], all[:3]},
		make([][]byte, 100), {make([]byte, 5000)}, {all[255:], make([]byte, 1000), all[1:2]},
	} {
		do(docs)
	}
	var seed uint32 = 9
	for n := range 60 {
		docs := make([][]byte, next(&seed, 12))
		for i := range docs {
			docs[i] = make([]byte, next(&seed, n+1))
			for k := range docs[i] {
				docs[i][k] = byte(next(&seed, 256))
			}
		}
		do(docs)
	}
}

// made: a text's table.
func made(t *testing.T, m model) *alpha.Table {
	t.Helper()
	x, e := alpha.New(m...)
	if x == nil || e != api.OK {
		t.Fatalf("New of %d symbols = %v %d", len(m), x, e)
	}
	return x
}

// agree: whatever is asked of the table, it is as counted in the model.
func agree(t *testing.T, what string, x *alpha.Table, m model) {
	t.Helper()
	if x == nil {
		t.Fatalf("%s: no table", what)
	}
	symbols := m.symbols()
	if x.Len() != len(m) || x.Sigma() != len(symbols) {
		t.Fatalf("%s: %d symbols, %d unlike, want %d, %d", what, x.Len(), x.Sigma(), len(m), len(symbols))
	}
	if got := x.Bytes(); !bytes.Equal(got, m.bytes()) {
		t.Fatalf("%s: Bytes() = %x, want %x", what, got, m.bytes())
	}
	for symbol := range 258 {
		want, wantE := slices.Index(symbols, symbol), api.OK
		if want < 0 {
			want, wantE = 0, api.ErrNone
		}
		if code, e := x.Code(symbol); code != want || e != wantE {
			t.Fatalf("%s: Code(%d) = %d %d, want %d %d", what, symbol, code, e, want, wantE)
		}
	}
	for _, symbol := range noSymbols {
		if code, e := x.Code(symbol); code != 0 || e != api.ErrNone {
			t.Fatalf("%s: Code(%d) = %d %d", what, symbol, code, e)
		}
	}
	agreeCodes(t, what, x, m)
}

// agreeCodes: of each code, and of those that aren't there.
func agreeCodes(t *testing.T, what string, x *alpha.Table, m model) {
	t.Helper()
	symbols := m.symbols()
	for code, symbol := range symbols {
		below := m.count(func(other int) bool { return other < symbol })
		got, e := x.Symbol(code)
		c, e2 := x.C(code)
		if got != symbol || e != api.OK || c != below || e2 != api.OK || x.Count(code) != m.often(symbol) {
			t.Fatalf("%s: code %d: symbol %d %d, C %d %d, count %d, want %d, %d, %d", what, code, got, e, c, e2, x.Count(code), symbol, below, m.often(symbol))
		}
	}
	sigma := len(symbols)
	if c, e := x.C(sigma); c != len(m) || e != api.OK {
		t.Fatalf("%s: C(Sigma) = %d %d, want %d", what, c, e, len(m))
	}
	for _, code := range append([]int{-1, sigma, sigma + 1, sigma + 2, max(sigma, 256), max(sigma, 257), 258}, far...) {
		if symbol, e := x.Symbol(code); symbol != 0 || e != api.ErrNone || x.Count(code) != 0 {
			t.Fatalf("%s of %d codes: Symbol(%d) = %d %d, Count %d", what, sigma, code, symbol, e, x.Count(code))
		}
		if c, e := x.C(code); code != sigma && (c != 0 || e != api.ErrRange) {
			t.Fatalf("%s of %d codes: C(%d) = %d %d", what, sigma, code, c, e)
		}
	}
}

// wantNone: there is no table, and this error.
func wantNone(t *testing.T, what string, x *alpha.Table, e, want api.Errno) {
	t.Helper()
	if x != nil || e != want {
		t.Errorf("%s = %v %d, want no table and %d", what, x, e, want)
	}
}

// sameDocs: as many, of the same bytes.
func sameDocs(a, b [][]byte) bool { return slices.EqualFunc(a, b, bytes.Equal) }

// spoil: all of the list is this, what it has room for too.
func spoil[T any](l []T, with T) {
	l = l[:cap(l)]
	for i := range l {
		l[i] = with
	}
}
