package stream_test

import (
	"bytes"
	"math"
	"slices"
	"testing"

	"incipit/alloc"
	"incipit/api"
	"incipit/cow"
	"incipit/device"
	"incipit/frame"
	"incipit/stream"
)

// edges: sizes about those of whole chunks.
func edges() []int { return []int{0, 1, 2, 237, 238, 239, 475, 476, 477, 713, 714, 715} }

// far is numbers far from all sections, places, roots and epochs; the low bits of some of them alone would be one.
func far() []int {
	return []int{math.MinInt, math.MinInt + 5, 5 - 1<<32, -65536, -2048, -16, -1, 1<<32 + 5, 1<<62 + 5, math.MaxInt - 1, math.MaxInt}
}

// P11.1: a device and an allocator, a root that may be one, an epoch that may be one; the errors in their order, as of a tree.
func TestOpen(t *testing.T) {
	d, a := made(t, 16)
	if stream.Kind != 3 || stream.Chunk != 238 {
		t.Errorf("Kind %d, Chunk %d", stream.Kind, stream.Chunk)
	}
	roots := append(far(), 0, 1, 2, 15, 16, 2047, 2048)
	epochs := append(far(), 0, 1, 2, 1<<32-1, 1<<32, 1<<32+1)
	for _, root := range roots {
		for _, epoch := range epochs {
			want := api.OK
			if root < 0 || root == 1 || root > 2047 || epoch < 1 || epoch > 1<<32-1 {
				want = api.ErrRange
			}
			f, e := stream.Open(d, a, root, epoch)
			if e != want || (f == nil) == (want == api.OK) {
				t.Errorf("Open of %d, %d: %v %d, want %d", root, epoch, f, e, want)
			}
			if want == api.OK && f.Root() != root {
				t.Errorf("Open of %d: Root = %d", root, f.Root())
			}
			for _, none := range []func() (*stream.File, api.Errno){
				func() (*stream.File, api.Errno) { return stream.Open(nil, a, root, epoch) },
				func() (*stream.File, api.Errno) { return stream.Open(d, nil, root, epoch) },
				func() (*stream.File, api.Errno) { return stream.Open(nil, nil, root, epoch) },
			} {
				if f, e := none(); f != nil || e != api.ErrState {
					t.Errorf("Open of none, %d, %d: %v %d, want ErrState", root, epoch, f, e)
				}
			}
		}
	}
	if reads, writes, syncs := d.Counts(); reads+writes+syncs != 0 || a.Free() != 14 {
		t.Errorf("%d reads, %d writes, %d syncs, %d free", reads, writes, syncs, a.Free())
	}
}

// P11.1: the power may be off.
func TestOpenWithoutPower(t *testing.T) {
	d, a := made(t, 16)
	d.Crash()
	for _, root := range []int{0, 5, 2000} {
		if f := opened(t, d, a, root, 1); f.Root() != root {
			t.Errorf("Root = %d, want %d", f.Root(), root)
		}
	}
}

// P11.4, P1: a nil file, and one that nobody opened: ErrState, whatever is asked.
func TestNilFile(t *testing.T) {
	for _, f := range []*stream.File{nil, {}} {
		for _, section := range append(far(), 0, 1, 15, 16) {
			calls := slices.Concat(readers(section), changers(section), ofAll())
			for _, c := range calls {
				if e := c.do(f); e != api.ErrState {
					t.Errorf("%s of %d: %d", c.name, section, e)
				}
			}
			for _, n := range append(far(), 0, 5) {
				if b, e := f.ReadAt(section, n, -n); b != nil || e != api.ErrState {
					t.Errorf("ReadAt(%d, %d, %d) = %v %d", section, n, -n, b, e)
				}
			}
			if e := f.Write(section, make([]byte, 65536*238+1)); e != api.ErrState {
				t.Errorf("Write of too much: %d", e)
			}
		}
		if f.Root() != 0 {
			t.Errorf("Root = %d", f.Root())
		}
	}
}

// P11.1: sections are 0 to 15, in each call; what is none is told ahead of all else.
func TestSections(t *testing.T) {
	r := begun(t, 64)
	for _, section := range []int{0, 15, 7} {
		r.do(writes(section, data(300, section)), adds(section, data(10, 1)), adds(section))
	}
	r.do(drops(7), drops(7), drops(8))
	too := make([]byte, 65536*238+1)
	none := func() {
		for _, section := range append(far(), -1, 16, 17, 256, 65536) {
			r.unchanged("no section", api.ErrRange, slices.Concat(readers(section), changers(section), []call{
				{"Write of too much", func(f *stream.File) api.Errno { return f.Write(section, too) }},
				{"Add of too much", func(f *stream.File) api.Errno { return f.Add(section, too) }},
				{"ReadAt of no place", func(f *stream.File) api.Errno {
					b, e := f.ReadAt(section, -1, -2)
					return told(b != nil, e)
				}},
			})...)
		}
	}
	none()
	r.leave(0)
	none()
	r.d.Write(r.f.Root(), make([]byte, 256))
	none()
	r.d.Crash()
	none()
}

// P11.1, P11.2: the chapter's example: 239 bytes are two chunks, of 238 and 1.
func TestExample(t *testing.T) {
	r := begun(t, 16)
	b := data(239, 5)
	r.do(writes(3, b))
	pages, e := r.f.Pages()
	if len(pages) != 3 || e != api.OK {
		t.Fatalf("Pages = %v %d", pages, e)
	}
	for i, want := range [][]byte{b[:238], b[238:]} {
		f, e := frame.Read(r.d, pages[1+i])
		if !frame.Same(f, frame.Frame{Kind: 3, Epoch: 7, Page: pages[1+i], Body: want}) || e != api.OK {
			t.Errorf("chunk %d: %v %d", i, f, e)
		}
	}
}

// P11.1 to P11.4: a file without bytes.
func TestEmpty(t *testing.T) {
	r := begun(t, 16)
	r.agree()
	r.do(writes(0, nil), writes(15, []byte{}), adds(0), adds(15, nil, []byte{}), drops(0), drops(15))
	for section := range 16 {
		if b, e := r.f.Read(section); len(b) != 0 || e != api.OK {
			t.Errorf("Read(%d) = %v %d", section, b, e)
		}
		if b, e := r.f.ReadAt(section, 0, 0); len(b) != 0 || e != api.OK {
			t.Errorf("ReadAt(%d, 0, 0) = %v %d", section, b, e)
		}
		if b, e := r.f.ReadAt(section, 0, 1); b != nil || e != api.ErrRange {
			t.Errorf("ReadAt(%d, 0, 1) = %v %d", section, b, e)
		}
	}
	if l, e := r.f.Pages(); len(l) != 0 || e != api.OK || r.f.Root() != 0 || r.a.Free() != 14 {
		t.Errorf("Pages = %v %d, Root %d, Free %d", l, e, r.f.Root(), r.a.Free())
	}
}

// P11.2: each size is written, over each other one, committed or not, and each is added to each.
func TestSizes(t *testing.T) {
	for _, n := range edges() {
		for _, m := range edges() {
			for _, c := range []change{writes(4, data(m, 2)), adds(4, data(m, 2)), drops(4)} {
				r := begun(t, 64)
				r.do(writes(4, data(n, 1)), c)
				r = begun(t, 64)
				r.do(writes(4, data(n, 1)))
				was := r.commit()
				r.do(c)
				r.stands(was)
				r.abort(was)
				r.do(c)
				was = r.commit()
				r.do(drops(4))
				r.abort(was)
			}
		}
	}
}

// P11.2: pieces are added one behind the other, wherever they end: within a chunk, at its end, or behind it.
func TestPieces(t *testing.T) {
	for _, n := range []int{0, 1, 100, 237, 238, 239, 400} {
		for _, cuts := range [][]int{{0}, {0, 0, 0}, {1}, {137, 1}, {138}, {0, 138, 0, 1}, {138, 238}, {138, 238, 238}, {100, 38, 238, 1}, {500}, {37, 500, 3}, {1, 0, 1, 0, 1}, slices.Repeat([]int{1}, 300), slices.Repeat([]int{17}, 30)} {
			r := begun(t, 64)
			r.do(writes(9, data(n, 3)))
			var pieces [][]byte
			for i, size := range cuts {
				pieces = append(pieces, data(size, i))
			}
			r.do(adds(9, pieces...))
			want := slices.Concat(append([][]byte{data(n, 3)}, pieces...)...)
			if b, e := r.f.Read(9); !bytes.Equal(b, want) || e != api.OK {
				t.Errorf("%d and %v: %d bytes %d, want %d", n, cuts, len(b), e, len(want))
			}
			r.do(writes(9, nil))
			for _, b := range pieces {
				r.do(adds(9, b))
			}
		}
	}
}

// P11.2: Add of nothing leaves all as it was, and needs no page.
func TestAddOfNothing(t *testing.T) {
	for _, n := range edges() {
		r := begun(t, 64)
		r.do(writes(9, data(n, 3)))
		r.commit()
		r.leave(0)
		for _, nothing := range [][][]byte{nil, {}, {nil}, {{}, nil, {}}} {
			r.unchanged("nothing", api.OK, call{"Add", func(f *stream.File) api.Errno { return f.Add(9, nothing...) }})
		}
	}
}

// P11.2: only the last chunk is written anew, if it isn't full; the others stay on their pages.
func TestAddLeavesFullChunks(t *testing.T) {
	for _, c := range []struct{ size, stay int }{{1, 0}, {237, 0}, {238, 1}, {239, 1}, {475, 1}, {476, 2}, {477, 2}} {
		r := begun(t, 64)
		r.do(writes(2, data(c.size, 3)))
		before, _ := r.f.Pages()
		r.do(adds(2, data(300, 4)))
		after, _ := r.f.Pages()
		if !slices.Equal(before[1:1+c.stay], after[1:1+c.stay]) {
			t.Errorf("%d bytes: chunks on %v, behind it on %v", c.size, before[1:], after[1:])
		}
		for i, page := range before[1:] {
			if i >= c.stay && after[1+i] == page {
				t.Errorf("%d bytes: chunk %d is written over", c.size, i)
			}
		}
	}
}

// P11.1: from and to below 0, at 0, at the size, above it, equal, turned round, and about each chunk's ends.
func TestReadAt(t *testing.T) {
	for _, n := range []int{0, 1, 237, 238, 239, 476, 1000} {
		r := begun(t, 64)
		b := data(n, 8)
		r.do(writes(0, data(700, 1)), writes(1, b), writes(2, data(700, 2)))
		var places []int
		for at := 0; at <= n+238; at += 238 {
			places = append(places, at-1, at, at+1)
		}
		places = append(append(places, far()...), n-1, n, n+1, n/2, 65536*238, 65536*238+1)
		for _, from := range places {
			for _, to := range places {
				got, e := r.f.ReadAt(1, from, to)
				if from < 0 || from > to || to > n {
					if got != nil || e != api.ErrRange {
						t.Errorf("%d bytes: ReadAt(%d, %d): %d bytes %d", n, from, to, len(got), e)
					}
					continue
				}
				if !bytes.Equal(got, b[from:to]) || e != api.OK {
					t.Errorf("%d bytes: ReadAt(%d, %d): %d bytes %d", n, from, to, len(got), e)
				}
			}
		}
	}
}

// P11.1, P1: places that no section has are told ahead of a tree that is wrong, and of power that is off.
func TestReadAtOfNoPlace(t *testing.T) {
	r := begun(t, 16)
	r.do(writes(1, data(10, 1)))
	spoil := []func(){func() {}, func() { r.d.Write(r.f.Root(), make([]byte, 256)) }, func() { r.d.Crash() }}
	for i, do := range spoil {
		do()
		for _, c := range [][2]int{{-1, 0}, {-1, -1}, {5, 4}, {0, -1}, {0, 65536*238 + 1}, {math.MaxInt, math.MaxInt}} {
			if b, e := r.f.ReadAt(1, c[0], c[1]); b != nil || e != api.ErrRange {
				t.Errorf("ReadAt%v = %v %d", c, b, e)
			}
		}
		if b, e := r.f.ReadAt(1, 0, 11); b != nil || e != []api.Errno{api.ErrRange, api.ErrSum, api.ErrDown}[i] {
			t.Errorf("ReadAt(0, 11) = %v %d", b, e)
		}
	}
}

// P11.2, P11.4: all sections beside each other, changed one by one: none has another one's bytes.
func TestBesideEachOther(t *testing.T) {
	r := begun(t, 256)
	for _, section := range []int{7, 15, 0, 3, 8, 1, 14, 2, 13, 4, 12, 5, 11, 6, 10, 9} {
		r.do(writes(section, data(100+90*section, section)))
	}
	r.commit()
	for section := range 16 {
		r.do(adds(section, data(200, 40+section)))
	}
	for _, section := range []int{8, 0, 15, 7} {
		r.do(writes(section, data(238*section, 60)), drops((section+1)%16))
	}
	r.commit()
	for section := range 16 {
		r.do(drops(section))
	}
	if r.f.Root() != 0 || len(r.taken()) != 0 {
		t.Errorf("of nothing: Root %d, taken %v", r.f.Root(), r.taken())
	}
}

// P11.2, P11.4: as many bytes as make trees of two, three and four levels, written, added to, cut short, and dropped.
func TestManyLevels(t *testing.T) {
	for _, c := range []struct{ chunks, depth int }{{16, 1}, {17, 2}, {150, 3}, {1200, 4}} {
		r := begun(t, 2048)
		r.do(writes(6, data(10, 1)), drops(6), writes(6, data(238*c.chunks-7, 1)))
		x, _ := cow.Open(r.d, r.a, r.f.Root(), 1)
		if n, e := x.Depth(); n != c.depth || e != api.OK {
			t.Errorf("%d chunks: %d levels %d, want %d", c.chunks, n, e, c.depth)
		}
		was := r.commit()
		r.do(adds(6, data(5000, 2)), writes(5, data(2000, 1)), writes(7, data(2000, 2)))
		r.stands(was)
		r.do(drops(6))
		r.stands(was)
		was = r.commit()
		r.do(writes(6, data(238*c.chunks/2, 9)))
		r.stands(was)
		r.do(drops(5), drops(7), writes(6, data(3, 1)), drops(6))
		r.stands(was)
		if r.f.Root() != 0 || len(r.taken()) != 0 {
			t.Errorf("of nothing: Root %d, taken %v", r.f.Root(), r.taken())
		}
	}
}

// P11.2: the chunks of many small Adds are those of one Write.
func TestManySmallAdds(t *testing.T) {
	r := begun(t, 256)
	r.seldom = 50
	b := data(6000, 4)
	for from := 0; from < len(b); from += 25 {
		r.do(adds(1, b[from:from+25]))
	}
	r.agree()
	// 26 chunks, three leaves, and one node above them.
	if n := len(r.taken()); n != 30 {
		t.Errorf("%d pages are taken", n)
	}
	if got, e := r.f.Read(1); !bytes.Equal(got, b) || e != api.OK {
		t.Errorf("Read: %d bytes %d", len(got), e)
	}
}

// P11.2: frames are of kind 3 and of the file's epoch; those that were written ahead keep theirs.
func TestEpochs(t *testing.T) {
	d, a := made(t, 64)
	root := 0
	for _, epoch := range []int{1, 500, 1<<32 - 1} {
		f := opened(t, d, a, root, epoch)
		if e := f.Add(0, data(238, epoch)); e != api.OK {
			t.Fatal(e)
		}
		d.Sync()
		a.Commit()
		root = f.Root()
	}
	pages, _ := opened(t, d, a, root, 7).Pages()
	for i, epoch := range []int{1, 500, 1<<32 - 1} {
		f, e := frame.Read(d, pages[1+i])
		if !frame.Same(f, frame.Frame{Kind: 3, Epoch: epoch, Page: pages[1+i], Body: data(238, epoch)}) || e != api.OK {
			t.Errorf("chunk %d: %v %d", i, f, e)
		}
	}
	if f, e := frame.Read(d, root, cow.Kind); f.Epoch != 1<<32-1 || e != api.OK {
		t.Errorf("the root: %v %d", f, e)
	}
}

// P11.1, P11.3: what only tells writes nothing, and changes nothing.
func TestTellingChangesNothing(t *testing.T) {
	r := begun(t, 128)
	r.do(writes(0, data(3000, 1)), writes(9, data(5000, 2)))
	for section := range 16 {
		r.unchanged("telling", api.OK, slices.Concat(readers(section)[:3], ofAll())...)
	}
	r.agree()
}

// P1: bytes that are handed in are neither kept nor changed, and answers are new memory.
func TestSharesNoMemory(t *testing.T) {
	r := begun(t, 64)
	for _, n := range edges() {
		b, piece, other := data(n, 1), data(n, 2), data(7, 3)
		r.slow.write(3, b)
		r.slow.add(3, piece, other, piece)
		given := [][]byte{slices.Clone(b), slices.Clone(piece), slices.Clone(other)}
		if e := r.f.Write(3, given[0]); e != api.OK {
			t.Fatal(e)
		}
		clear(given[0])
		if e := r.f.Add(3, given[1], given[2], given[1]); e != api.OK {
			t.Fatal(e)
		}
		if !bytes.Equal(given[1], piece) || !bytes.Equal(given[2], other) {
			t.Errorf("%d: what was handed in is changed", n)
		}
		clear(given[1])
		clear(given[2])
		r.agree()
		for range 2 {
			all, _ := r.f.Read(3)
			some, _ := r.f.ReadAt(3, 1, len(all))
			clear(all[:cap(all)])
			clear(some[:cap(some)])
			sections, _ := r.f.Sections()
			clear(sections[:cap(sections)])
			pages, _ := r.f.Pages()
			clear(pages[:cap(pages)])
			r.agree()
		}
	}
	// Room behind what is handed in is another one's.
	long := data(700, 5)
	r.slow.write(3, long[:100])
	r.slow.add(3, long[200:210])
	r.f.Write(3, long[:100])
	r.f.Add(3, long[200:210])
	if !bytes.Equal(long, data(700, 5)) {
		t.Error("room behind the bytes is changed")
	}
	r.agree()
}

// P11.4: two files of one device and one allocator don't touch each other.
func TestTwoFiles(t *testing.T) {
	d, a := made(t, 256)
	one, other := opened(t, d, a, 0, 3), opened(t, d, a, 0, 4)
	var first, second []byte
	for i := range 60 {
		if e := one.Add(1, data(100, i)); e != api.OK {
			t.Fatal(e)
		}
		if e := other.Write(1, data(90*i, i)); e != api.OK {
			t.Fatal(e)
		}
		first, second = append(first, data(100, i)...), data(90*i, i)
		x, e := one.Read(1)
		y, f := other.Read(1)
		if !bytes.Equal(x, first) || !bytes.Equal(y, second) || e != api.OK || f != api.OK {
			t.Fatalf("%d: %d bytes %d, %d bytes %d", i, len(x), e, len(y), f)
		}
	}
	n, _ := one.Pages()
	m, _ := other.Pages()
	if both := slices.Concat(n, m); len(both) != 254-a.Free() || len(slices.Compact(slices.Sorted(slices.Values(both)))) != len(both) {
		t.Errorf("%d and %d pages, %d are taken", len(n), len(m), 254-a.Free())
	}
}

// P2, P11.4: what is written, added and dropped in any order reads as plain bytes would, through commits and aborts; the same again the same.
func TestWalks(t *testing.T) {
	run := func(seed int) (*device.Device, *alloc.Alloc, []int) {
		r := begun(t, 400)
		r.seldom = 6
		dice := dice(seed)
		was := r.commit()
		var told []int
		for range 150 {
			section, n := dice.below(5)*3, dice.below(900)
			switch dice.below(10) {
			case 0, 1, 2:
				r.do(writes(section, data(n*2, n)))
			case 3, 4, 5:
				r.do(adds(section, data(n, n)))
			case 6:
				r.do(adds(section, data(n%30, n), data(n%238, 1), data(n, 2)))
			case 7:
				r.do(drops(section))
			case 8:
				r.stands(was)
				was = r.commit()
			default:
				r.stands(was)
				r.abort(was)
			}
			size, e := r.f.Size(section)
			told = append(told, size, int(e), r.f.Root(), r.a.Free())
		}
		r.agree()
		return r.d, r.a, told
	}
	for seed := range 12 {
		d, a, told := run(seed)
		if seed > 2 {
			continue
		}
		again, b, so := run(seed)
		if !bytes.Equal(d.Image(), again.Image()) || !alloc.Same(a, b) || !slices.Equal(told, so) {
			t.Error("the same calls had other answers")
		}
	}
}
