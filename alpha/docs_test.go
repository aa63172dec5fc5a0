package alpha_test

import (
	"bytes"
	"slices"
	"testing"

	"incipit/alpha"
	"incipit/api"
)

// The chapter's example.
func TestExample(t *testing.T) {
	text, e := alpha.Text([]byte("ab"), []byte(""))
	if e != api.OK || !slices.Equal(text, []int{99, 100, 1, 1, 0}) {
		t.Fatalf("Text = %v %d", text, e)
	}
	x, e := alpha.New(text...)
	if e != api.OK {
		t.Fatalf("New: %d", e)
	}
	codes, e := x.Codes(text...)
	if e != api.OK || !slices.Equal(codes, []int{2, 3, 1, 1, 0}) {
		t.Errorf("Codes = %v %d", codes, e)
	}
	for code, want := range []int{0, 1, 3, 4, 5} {
		if c, e := x.C(code); c != want || e != api.OK {
			t.Errorf("C(%d) = %d %d, want %d", code, c, e, want)
		}
	}
}

// P14.1: the text is as the chapter's words tell it, and P14.3: of it the documents are what they were.
func TestTextAndBack(t *testing.T) {
	eachDocs(func(docs [][]byte) {
		text, e := alpha.Text(docs...)
		if e != api.OK || !slices.Equal(text, texted(docs)) {
			t.Fatalf("Text(%q) = %v %d, want %v", docs, text, e, texted(docs))
		}
		back, e := alpha.Docs(text)
		if e != api.OK || !sameDocs(back, docs) {
			t.Fatalf("Docs of Text(%q) = %q %d", docs, back, e)
		}
		again, e := alpha.Text(back...)
		if e != api.OK || !slices.Equal(again, text) {
			t.Fatalf("Text of Docs(%v) = %v %d", text, again, e)
		}
	})
}

// P14.1: each byte's symbol.
func TestTextOfEachByte(t *testing.T) {
	for c := range 256 {
		b := []byte{byte(c)}
		text, e := alpha.Text(b)
		if e != api.OK || !slices.Equal(text, []int{c + 2, 1, 0}) {
			t.Errorf("Text of byte %d = %v %d", c, text, e)
		}
		docs, e := alpha.Docs([]int{c + 2, 1, 0})
		if e != api.OK || !sameDocs(docs, [][]byte{b}) {
			t.Errorf("Docs of byte %d = %v %d", c, docs, e)
		}
		if p := alpha.Pattern(b); !slices.Equal(p, []int{c + 2}) {
			t.Errorf("Pattern of byte %d = %v", c, p)
		}
	}
}

// P14.1: a text has 65536 symbols, and not one more, in one document and in many.
func TestTextOfMany(t *testing.T) {
	long := make([]byte, 1<<20)
	for i := range long {
		long[i] = byte(i / 3)
	}
	halves := func(n int) [][]byte { return [][]byte{long[:n/2], long[n/2 : n]} }
	thousands := func(n int) [][]byte { return slices.Collect(slices.Chunk(long[:n], 1000)) }
	for i, c := range []struct {
		docs [][]byte
		fits bool
	}{
		{[][]byte{long[:65533]}, true},
		{[][]byte{long[:65534]}, true},
		{[][]byte{long[:65535]}, false},
		{[][]byte{long[:65536]}, false},
		{[][]byte{long}, false},
		{[][]byte{nil, long[:65533]}, true},
		{[][]byte{nil, long[:65534]}, false},
		{[][]byte{long[:65533], nil}, true},
		{[][]byte{long[:65534], nil}, false},
		{halves(65533), true},
		{halves(65534), false},
		{thousands(65469), true},
		{thousands(65470), false},
		{make([][]byte, 65534), true},
		{make([][]byte, 65535), true},
		{make([][]byte, 65536), false},
		{make([][]byte, 200000), false},
		{append(make([][]byte, 65534), long[:1]), false},
		{append(make([][]byte, 65533), long[:1]), true},
		{append(make([][]byte, 65535), long), false},
		{[][]byte{long, nil}, false},
		{[][]byte{nil, long, nil}, false},
	} {
		text, e := alpha.Text(c.docs...)
		if !c.fits {
			if text != nil || e != api.ErrLong {
				t.Errorf("case %d: Text: %d symbols, %d, want ErrLong", i, len(text), e)
			}
			continue
		}
		if e != api.OK || !slices.Equal(text, texted(c.docs)) {
			t.Errorf("case %d: Text: %d symbols, %d", i, len(text), e)
		}
		back, e := alpha.Docs(text)
		if e != api.OK || !sameDocs(back, c.docs) {
			t.Errorf("case %d: Docs: %d documents, %d", i, len(back), e)
		}
	}
}

// wantDocs: Docs answers what the model's does.
func wantDocs(t *testing.T, text []int) {
	t.Helper()
	docs, want := parted(text)
	got, e := alpha.Docs(text)
	if e != want || !sameDocs(got, docs) || e != api.OK && got != nil {
		t.Fatalf("Docs(%v) = %v %d, want %v %d", text, got, e, docs, want)
	}
}

// P14.1: documents' texts, and what is none, as the chapter's words tell it.
func TestDocs(t *testing.T) {
	for _, c := range []struct {
		text []int
		docs [][]byte
		want api.Errno
	}{
		{[]int{0}, nil, api.OK},
		{[]int{1, 0}, [][]byte{{}}, api.OK},
		{[]int{1, 1, 1, 0}, [][]byte{{}, {}, {}}, api.OK},
		{[]int{2, 1, 0}, [][]byte{{0}}, api.OK},
		{[]int{257, 1, 0}, [][]byte{{255}}, api.OK},
		{[]int{99, 100, 1, 1, 0}, [][]byte{[]byte("ab"), {}}, api.OK},
		{[]int{1, 99, 1, 0}, [][]byte{{}, []byte("a")}, api.OK},
		{[]int{1, 1, 99, 1, 1, 100, 101, 1, 1, 0}, [][]byte{{}, {}, []byte("a"), {}, []byte("bc"), {}}, api.OK},
		{nil, nil, api.ErrForm},
		{[]int{}, nil, api.ErrForm},
		{[]int{1}, nil, api.ErrForm},
		{[]int{1, 1}, nil, api.ErrForm},
		{[]int{2}, nil, api.ErrForm},
		{[]int{99, 1}, nil, api.ErrForm},
		{[]int{99, 100, 1, 1}, nil, api.ErrForm},
		{[]int{0, 1}, nil, api.ErrForm},
		{[]int{0, 0}, nil, api.ErrForm},
		{[]int{0, 1, 0}, nil, api.ErrForm},
		{[]int{1, 0, 0}, nil, api.ErrForm},
		{[]int{1, 0, 1, 0}, nil, api.ErrForm},
		{[]int{99, 0, 100, 1, 0}, nil, api.ErrForm},
		{[]int{99, 1, 0, 0}, nil, api.ErrForm},
		{[]int{99, 1, 0, 1}, nil, api.ErrForm},
		{[]int{99, 0}, nil, api.ErrForm},
		{[]int{2, 0}, nil, api.ErrForm},
		{[]int{257, 0}, nil, api.ErrForm},
		{[]int{99, 1, 100, 0}, nil, api.ErrForm},
		{[]int{1, 100, 0}, nil, api.ErrForm},
		{[]int{258, 1, 0}, nil, api.ErrForm},
		{[]int{-1, 1, 0}, nil, api.ErrForm},
		{[]int{99, 1, 258, 1, 0}, nil, api.ErrForm},
		{[]int{1, -1, 0}, nil, api.ErrForm},
		{[]int{1, 258}, nil, api.ErrForm},
		{[]int{1, -1}, nil, api.ErrForm},
		{[]int{256}, nil, api.ErrForm},
	} {
		docs, e := alpha.Docs(c.text)
		if e != c.want || !sameDocs(docs, c.docs) || e != api.OK && docs != nil {
			t.Errorf("Docs(%v) = %v %d, want %v %d", c.text, docs, e, c.docs, c.want)
		}
		wantDocs(t, c.text)
	}
}

// P14.1: all texts of a few symbols, those at the edges and beyond them.
func TestDocsOfAllShortTexts(t *testing.T) {
	of := []int{0, 1, 2, 3, 257, 258, -1}
	var grow func(text []int)
	grow = func(text []int) {
		wantDocs(t, text)
		if len(text) == 6 {
			return
		}
		for _, symbol := range of {
			grow(append(slices.Clone(text), symbol))
		}
	}
	grow(nil)
}

// P14.1: one symbol that can't be, wherever it stands, also such a one whose lowest bits are a symbol's.
func TestDocsOfWrongSymbols(t *testing.T) {
	text := []int{1, 99, 100, 1, 1, 257, 1, 0}
	for i := range text {
		for _, symbol := range append([]int{0, 1, 2, 257}, noSymbols...) {
			wrong := slices.Clone(text)
			wrong[i] = symbol
			wantDocs(t, wrong)
		}
		wantDocs(t, text[:i])
		wantDocs(t, text[i:])
		wantDocs(t, slices.Delete(slices.Clone(text), i, i+1))
		wantDocs(t, append(slices.Clone(text), text[:i]...))
	}
}

// P14.1: what has more than 65536 symbols is no text, so no documents' one.
func TestDocsOfTooMany(t *testing.T) {
	for _, symbol := range []int{1, 99} {
		for _, n := range []int{65535, 65536, 65537, 70000} {
			text := drawn(n, func(int) int { return symbol })
			text[n-2], text[n-1] = 1, 0
			wantDocs(t, text)
			if _, e := alpha.Docs(text); (e == api.OK) != (n <= 65536) {
				t.Errorf("Docs of %d symbols: %d", n, e)
			}
			text[0] = 0
			wantDocs(t, text)
		}
	}
}

// P14.1: each byte plus 2.
func TestPattern(t *testing.T) {
	for _, c := range []struct {
		b    []byte
		want []int
	}{
		{nil, nil}, {[]byte{}, nil}, {[]byte{0}, []int{2}}, {[]byte{255}, []int{257}}, {[]byte{0, 255, 0}, []int{2, 257, 2}},
		{[]byte("abra"), []int{99, 100, 116, 99}}, {bytes.Repeat([]byte{254}, 70000), slices.Repeat([]int{256}, 70000)},
	} {
		if got := alpha.Pattern(c.b); !slices.Equal(got, c.want) {
			t.Errorf("Pattern of %d bytes: %d symbols, want %d", len(c.b), len(got), len(c.want))
		}
	}
	eachDocs(func(docs [][]byte) {
		for _, doc := range docs {
			text, _ := alpha.Text(doc)
			if got := alpha.Pattern(doc); !slices.Equal(got, text[:len(text)-2]) {
				t.Fatalf("Pattern(%q) = %v, but Text %v", doc, got, text)
			}
		}
	})
}
