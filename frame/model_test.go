package frame_test

import (
	"slices"

	"incipit/api"
	"incipit/frame"
)

// sum: the sum of layer 1, bit by bit.
func sum(b []byte) uint32 {
	r := ^uint32(0)
	for _, c := range b {
		for bit := range 8 {
			low := (r ^ uint32(c>>bit)) & 1
			r = r>>1 ^ 0x82F63B78*low
		}
	}
	return ^r
}

// low: the number's so many lowest bytes, the lowest first.
func low(n, size int) []byte {
	var b []byte
	for range size {
		b = append(b, byte(n%256))
		n /= 256
	}
	return b
}

// marked: the first 252 of these bytes, and their sum.
func marked(b []byte) []byte {
	return append(slices.Clone(b[:252]), low(int(sum(b[:252])), 4)...)
}

// page: a frame's bytes, put together in the order of the chapter's words.
func page(f frame.Frame) []byte {
	b := []byte{0xF1, byte(f.Kind)}
	b = append(b, low(f.Epoch, 4)...)
	b = append(b, low(f.Page, 2)...)
	b = append(b, low(len(f.Body), 2)...)
	b = append(b, f.Body...)
	for len(b) < 248 {
		b = append(b, 0)
	}
	b = append(b, low(f.Epoch, 4)...)
	return marked(append(b, 0, 0, 0, 0))
}

// decoded: what these bytes are, each asked by itself.
func decoded(b []byte) (frame.Frame, api.Errno) {
	none := frame.Frame{}
	if len(b) != 256 {
		return none, api.ErrLong
	}
	if !slices.Equal(b, marked(b)) {
		return none, api.ErrSum
	}
	number := func(from, to int) int {
		n := 0
		for i := to - 1; i >= from; i-- {
			n = n*256 + int(b[i])
		}
		return n
	}
	kind, size := number(1, 2), number(8, 10)
	if b[0] != 0xF1 || kind < 1 || kind > 9 || number(6, 8) > 2047 || size > 238 || number(2, 6) != number(248, 252) {
		return none, api.ErrForm
	}
	for _, c := range b[10+size : 248] {
		if c != 0 {
			return none, api.ErrForm
		}
	}
	return frame.Frame{Kind: kind, Epoch: number(2, 6), Page: number(6, 8), Body: b[10 : 10+size]}, api.OK
}

// opened: what they are as this page, of these kinds.
func opened(b []byte, page int, kinds []int) (frame.Frame, api.Errno) {
	f, e := decoded(b)
	if e == api.OK && f.Page != page {
		return frame.Frame{}, api.ErrSum
	}
	if e == api.OK && len(kinds) > 0 && !slices.Contains(kinds, f.Kind) {
		return frame.Frame{}, api.ErrKind
	}
	return f, e
}

// same: frames told apart by their fields one by one, and by their bodies' bytes.
func same(a, b frame.Frame) bool {
	return a.Kind == b.Kind && a.Epoch == b.Epoch && a.Page == b.Page && string(a.Body) == string(b.Body)
}

// isZero: nothing at all.
func isZero(f frame.Frame) bool {
	return f.Kind == 0 && f.Epoch == 0 && f.Page == 0 && len(f.Body) == 0
}

// bodyOf: n bytes, none of which is 0.
func bodyOf(n int) []byte {
	b := make([]byte, n)
	for i := range b {
		b[i] = byte(i%255 + 1)
	}
	return b
}

// manyFrames: right ones, of all edges.
func manyFrames() []frame.Frame {
	var l []frame.Frame
	for _, kind := range []int{1, 2, 5, 8, 9} {
		for _, epoch := range []int{0, 1, 255, 256, 70000, 1<<24 + 1, 1<<31 - 1, 1 << 31, 1<<32 - 2, 1<<32 - 1} {
			for _, page := range []int{0, 1, 255, 256, 1000, 2046, 2047} {
				for _, size := range []int{0, 1, 2, 237, 238} {
					l = append(l, frame.Frame{Kind: kind, Epoch: epoch, Page: page, Body: bodyOf(size)})
				}
			}
		}
	}
	return append(l,
		frame.Frame{Kind: 4, Epoch: 4, Page: 4},
		frame.Frame{Kind: 4, Epoch: 4, Page: 4, Body: make([]byte, 238)},
		frame.Frame{Kind: 4, Epoch: 4, Page: 4, Body: []byte{0}},
		frame.Frame{Kind: 4, Epoch: 4, Page: 4, Body: []byte{0, 255, 0}},
	)
}
