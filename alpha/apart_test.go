package alpha_test

import (
	"bytes"
	"slices"
	"testing"

	"incipit/alpha"
	"incipit/api"
)

// P14.3: neither lists nor bytes that are answered change with the table, nor it with them, each time.
func TestAnswersAreApart(t *testing.T) {
	eachModel(func(m model) {
		if len(m) > 300 {
			return
		}
		x := made(t, m)
		for range 2 {
			codes, _ := x.Codes(m...)
			symbols, _ := x.Symbols(codes...)
			b := x.Bytes()
			was := slices.Clone(codes)
			spoil(symbols, -5)
			if !slices.Equal(codes, was) {
				t.Fatal("the codes changed with the symbols")
			}
			spoil(codes, -5)
			spoil(b, 0xA5)
			agree(t, "behind what was spoiled", x, m)
		}
	})
}

// P14.3: two answers of one call are apart, too.
func TestAnswersOfOneCallAreApart(t *testing.T) {
	m := model{5, 6, 7, 5}
	x := made(t, m)
	codes, _ := x.Codes(m...)
	symbols, _ := x.Symbols(0, 1, 2, 0)
	b := x.Bytes()
	pattern := alpha.Pattern([]byte("abc"))
	text, _ := alpha.Text([]byte("abc"))
	ask := func() {
		l, _ := x.Codes(m...)
		spoil(l, 77)
		l, _ = x.Symbols(0, 1, 2, 0)
		spoil(l, 77)
		spoil(x.Bytes(), 77)
		spoil(alpha.Pattern([]byte("abc")), 77)
		l, _ = alpha.Text([]byte("abc"))
		spoil(l, 77)
	}
	ask()
	ask()
	if !slices.Equal(codes, []int{0, 1, 2, 0}) || !slices.Equal(symbols, m) || !bytes.Equal(b, m.bytes()) || !slices.Equal(pattern, []int{99, 100, 101}) || !slices.Equal(text, []int{99, 100, 101, 1, 0}) {
		t.Errorf("%v %v %x %v %v", codes, symbols, b, pattern, text)
	}
}

// The rule of what is handed in: neither kept nor changed, nor what stands behind it.
func TestSymbolsHandedInAreApart(t *testing.T) {
	eachModel(func(m model) {
		if len(m) > 300 {
			return
		}
		room := append(slices.Clone(m), -7, -7)
		was := slices.Clone(room)
		text := room[:len(m)]
		x := made(t, text)
		codes, _ := x.Codes(text...)
		wantCodes := slices.Clone(codes)
		symbols, _ := x.Symbols(codes...)
		if !slices.Equal(room, was) || !slices.Equal(codes, wantCodes) {
			t.Fatalf("what was handed in is changed: %v", room)
		}
		spoil(room, 3)
		agree(t, "New, behind the text's change", x, m)
		if !slices.Equal(codes, wantCodes) {
			t.Fatal("the codes changed with the text")
		}
		spoil(codes, 0)
		if !slices.Equal(symbols, m) {
			t.Fatal("the symbols changed with the codes")
		}
	})
}

// The same of bytes, and of the rest.
func TestParsedIsApart(t *testing.T) {
	eachModel(func(m model) {
		if len(m) > 300 {
			return
		}
		room := append(m.bytes(), 9, 8, 7, 0xAA, 0xAA)
		was := bytes.Clone(room)
		b := room[:len(room)-2]
		x, rest, e := alpha.Parse(b)
		if e != api.OK || !bytes.Equal(room, was) || !bytes.Equal(rest, []byte{9, 8, 7}) {
			t.Fatalf("Parse(%x): %x %d, then %x", b, rest, e, room)
		}
		spoil(rest, 0x55)
		if !bytes.Equal(room, was) {
			t.Fatal("the bytes changed with the rest")
		}
		agree(t, "behind the rest's change", x, m)
		x, rest, _ = alpha.Parse(b)
		spoil(room, 0xFF)
		agree(t, "behind the bytes' change", x, m)
		if !bytes.Equal(rest, []byte{9, 8, 7}) {
			t.Fatal("the rest changed with the bytes")
		}
	})
}

// copied: documents of their own, with room behind each.
func copied(docs [][]byte) [][]byte {
	var l [][]byte
	for _, doc := range docs {
		room := append(bytes.Clone(doc), 0xAA, 0xBB)
		l = append(l, room[:len(doc)])
	}
	return l
}

// The same of documents and patterns.
func TestDocumentsHandedInAreApart(t *testing.T) {
	eachDocs(func(docs [][]byte) {
		given := copied(docs)
		text, _ := alpha.Text(given...)
		var patterns [][]int
		for _, doc := range given {
			patterns = append(patterns, alpha.Pattern(doc))
			if behind := doc[len(doc) : len(doc)+2]; !bytes.Equal(behind, []byte{0xAA, 0xBB}) {
				t.Fatalf("what stands behind a document is changed: %x", behind)
			}
		}
		if !sameDocs(given, docs) {
			t.Fatal("the documents are changed")
		}
		spoil(text, -1)
		if !sameDocs(given, docs) {
			t.Fatal("the documents changed with their text")
		}
		text, _ = alpha.Text(given...)
		for _, doc := range given {
			spoil(doc, 0x55)
		}
		if !slices.Equal(text, texted(docs)) {
			t.Fatal("the text changed with its documents")
		}
		for i, pattern := range patterns {
			if want := texted(docs[i : i+1]); !slices.Equal(pattern, want[:len(want)-2]) {
				t.Fatal("a pattern changed with its bytes")
			}
		}
	})
}

// P14.3: no document of Docs changes with another, with their text, or with those of another call.
func TestDocsAreApart(t *testing.T) {
	eachDocs(func(docs [][]byte) {
		room := append(texted(docs), -7, -7)
		was := slices.Clone(room)
		text := room[:len(room)-2]
		got, _ := alpha.Docs(text)
		other, _ := alpha.Docs(text)
		if !slices.Equal(room, was) {
			t.Fatal("the text is changed")
		}
		spoil(room, 3)
		if !sameDocs(got, docs) {
			t.Fatal("the documents changed with their text")
		}
		for i := range got {
			spoil(got[i], 0x55)
			if !sameDocs(got[i+1:], docs[i+1:]) {
				t.Fatalf("others changed with document %d", i)
			}
		}
		if !sameDocs(other, docs) {
			t.Fatal("documents changed with those of another call")
		}
		for i := len(other) - 1; i >= 0; i-- {
			spoil(other[i], 0x66)
			if !sameDocs(other[:i], docs[:i]) {
				t.Fatalf("others changed with document %d", i)
			}
		}
		spoil(got, nil)
		if len(other) > 0 && other[0] == nil {
			t.Fatal("the list changed with that of another call")
		}
	})
}

// P2: the same calls have the same answers.
func TestTheSameAgain(t *testing.T) {
	run := func() []int {
		var seed uint32 = 11
		var l []int
		for range 300 {
			text := drawn(next(&seed, 40), func(int) int { return next(&seed, 259) })
			x, e := alpha.New(text...)
			codes, e2 := x.Codes(text[:len(text)/2]...)
			symbols, e3 := x.Symbols(0, 1, next(&seed, 9))
			y, rest, e4 := alpha.Parse(append(x.Bytes(), 5, 6))
			c, e5 := y.C(next(&seed, 30))
			docs, e6 := alpha.Docs(append(text, 1, 0))
			l = append(l, int(e), int(e2), int(e3), int(e4), int(e5), int(e6), x.Len(), x.Sigma(), len(rest), c, len(docs))
			l = append(append(l, codes...), symbols...)
		}
		return l
	}
	if !slices.Equal(run(), run()) {
		t.Error("two runs differ")
	}
}
