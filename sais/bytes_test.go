package sais_test

import (
	"bytes"
	"slices"
	"testing"

	"incipit/api"
	"incipit/sais"
	"incipit/suffix"
)

// docsOf: documents of these texts.
func docsOf(texts ...string) [][]byte {
	var docs [][]byte
	for _, s := range texts {
		docs = append(docs, []byte(s))
	}
	return docs
}

// agreeBytes: the order of documents is that of their text, as the suffixes compare.
func agreeBytes(t *testing.T, docs [][]byte) {
	t.Helper()
	m := docsText(docs)
	order, e := sais.Bytes(docs...)
	wantList(t, "Bytes", m, order, e, m.order())
}

// P17.2: Bytes of the named documents.
func TestBytes(t *testing.T) {
	for _, c := range []struct {
		docs  [][]byte
		order []int
	}{
		{nil, []int{0}},
		{[][]byte{}, []int{0}},
		{docsOf(""), []int{1, 0}},
		{[][]byte{nil}, []int{1, 0}},
		{docsOf("", "", ""), []int{3, 2, 1, 0}},
		{docsOf("a"), []int{2, 1, 0}},
		{docsOf("ab", ""), []int{4, 3, 2, 0, 1}},                      // 99 100 1 1 0
		{docsOf("", "ab"), []int{4, 3, 0, 1, 2}},                      // 1 99 100 1 0
		{docsOf("", "a", "", "a", ""), []int{7, 6, 5, 2, 3, 0, 4, 1}}, // 1 99 1 1 99 1 1 0
		{docsOf("\x00\xff", "\xff"), []int{5, 4, 2, 0, 3, 1}},         // 2 257 1 257 1 0
		{docsOf("\x00", "\x00"), []int{4, 3, 1, 2, 0}},                // 2 1 2 1 0
	} {
		m := docsText(c.docs)
		order, e := sais.Bytes(c.docs...)
		wantList(t, "Bytes", m, order, e, c.order)
		agreeBytes(t, c.docs)
	}
}

// P17.2: Bytes of documents of many shapes.
func TestBytesOfMany(t *testing.T) {
	all := make([]byte, 256)
	for i := range all {
		all[i] = byte(i)
	}
	for _, docs := range [][][]byte{
		docsOf("abracadabra", "cad"), docsOf("abra", "bra"), docsOf("abra", "abra", "abra"), docsOf("a", "aa", "aaa", "aa", "a"),
		docsOf("", "", "abra", "", "bra", "", ""), docsOf("mississippi"), docsOf("ab", "ba", "", "ab"), docsOf("\x00", "\x00\x00", "\xff\x00", "\x01\x02"),
		docsOf("\xff\xff", "\xff", "\x00\xff\x00\xff"), {all}, {all, all}, {all[128:], nil, all[:128], all}, slices.Repeat([][]byte{nil}, 64),
		{bytes.Repeat([]byte("ab"), 300)}, {bytes.Repeat([]byte{0}, 400), bytes.Repeat([]byte{255}, 400)}, slices.Repeat(docsOf("abaab"), 64),
	} {
		agreeBytes(t, docs)
	}
}

// The same of all few documents of a few bytes.
func TestBytesOfAllShort(t *testing.T) {
	for n := range 8 {
		eachList(n, []int{0, 97, 255, -1}, func(l []int) {
			docs := [][]byte{nil}
			for _, b := range l {
				if b < 0 {
					docs = append(docs, nil)
				} else {
					docs[len(docs)-1] = append(docs[len(docs)-1], byte(b))
				}
			}
			agreeBytes(t, docs)
		})
	}
}

// cut: documents of one size each, of bytes that are drawn, and one of what is left, so that the text has n symbols.
func cut(n, size int) [][]byte {
	var seed uint64 = uint64(n + size)
	var docs [][]byte
	for left := n - 1; left > 0; {
		doc := make([]byte, min(size, left-1))
		for i := range doc {
			doc[i] = byte(next(&seed, 256) % (1 + size%300))
		}
		docs = append(docs, doc)
		left -= len(doc) + 1
	}
	return docs
}

// P17.2: Bytes of just 65536 symbols, and of more.
func TestBytesOfTooMany(t *testing.T) {
	for _, size := range []int{0, 1, 2, 255, 1024, 32767, 65533, 65534, 65535} {
		for _, n := range []int{65535, 65536} {
			docs := cut(n, size)
			m := docsText(docs)
			want, e := suffix.Sort(m)
			if len(m) != n || e != api.OK {
				t.Fatalf("documents of %d bytes have %d symbols, want %d", size, len(m), n)
			}
			order, e := sais.Bytes(docs...)
			wantList(t, "Bytes", m, order, e, want)
		}
		for _, n := range []int{65537, 65538, 70000, 140000} {
			order, e := sais.Bytes(cut(n, size)...)
			wantErrno(t, "Bytes", order == nil, e, api.ErrLong)
		}
		order, e := sais.Bytes(append(cut(65536, size), nil)...)
		wantErrno(t, "Bytes and an empty document", order == nil, e, api.ErrLong)
	}
	for _, doc := range [][]byte{make([]byte, 65535), make([]byte, 65536), make([]byte, 1<<20)} {
		order, e := sais.Bytes(doc)
		wantErrno(t, "Bytes", order == nil, e, api.ErrLong)
		order, e = sais.Bytes(nil, []byte("ab"), doc)
		wantErrno(t, "Bytes", order == nil, e, api.ErrLong)
	}
}
