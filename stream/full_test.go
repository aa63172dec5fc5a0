package stream_test

import (
	"slices"
	"testing"

	"incipit/alloc"
	"incipit/api"
	"incipit/device"
	"incipit/stream"
)

// scene is what is committed ahead, and a change of it.
type scene struct {
	ahead []change
	then  change
	// need is how many free pages it needs, as counted by hand; below 0 where the slow one alone tells.
	need int
}

// scenes: changes of files of one, two and three levels, of each kind.
func scenes() []scene {
	some := []change{writes(2, data(500, 1)), writes(9, data(100, 2))}
	leaves := []change{writes(2, data(238*30, 1)), writes(9, data(238*6+1, 2))}
	deep := []change{writes(2, data(238*150, 1)), writes(9, data(700, 2)), writes(3, data(700, 2))}
	return []scene{
		{nil, writes(0, data(1, 3)), 2},
		{nil, adds(15, data(238, 3)), 2},
		{nil, writes(0, data(239, 3)), 4},     // two chunks and two nodes, one of which is given then
		{nil, writes(0, data(238*16, 3)), 18}, // sixteen, and two
		{nil, adds(0, data(238*17, 3)), 21},   // seventeen, one and three
		{nil, writes(0, nil), 0},
		{nil, drops(0), 0},
		{some, drops(9), 1},
		{some, drops(2), 2}, // the second node ahead of the first one is given, the last one stands
		{some, adds(9, data(1, 3)), 2},
		{some, adds(9, data(139, 3)), 4},
		{some, writes(2, data(10, 3)), 3},
		{some, writes(9, nil), 1},
		{some, writes(7, data(239, 3)), 4},
		{some[:1], drops(2), 2},
		{some[1:], drops(9), 0},
		{some[1:], writes(9, data(5, 3)), 2},
		{leaves, drops(2), -1},
		{leaves, drops(9), -1},
		{leaves, adds(9, data(1, 3)), 3},
		{leaves, adds(2, data(238, 3)), -1},
		{leaves, adds(9, data(238*20, 3)), -1},
		{leaves, writes(2, data(238*33, 3)), -1},
		{leaves, writes(9, data(2, 3)), -1},
		{deep, drops(3), -1},
		{deep, writes(3, data(1000, 3)), -1},
		{deep, adds(3, data(1000, 3)), -1},
		{deep, writes(9, nil), -1},
	}
}

// set: the file of a scene, and what is committed.
func (s scene) set(t *testing.T) (*rig, stood) {
	t.Helper()
	r := begun(t, 512)
	r.seldom = 1000
	r.do(s.ahead...)
	return r, r.commit()
}

// P11.2: with each number of pages that is too few it is ErrFull; behind Abort a file opened anew tells what was committed. With one page more it is done.
func TestFull(t *testing.T) {
	for i, s := range scenes() {
		for few := 0; ; few++ {
			r, was := s.set(t)
			r.leave(few)
			want := s.then.slow(r.slow)
			if e := s.then.of(r.f); e != want || want != api.OK && want != api.ErrFull {
				t.Fatalf("scene %d, %s with %d pages: %d, want %d", i, s.then.name, few, e, want)
			}
			r.stands(was)
			if want == api.OK {
				if s.need >= 0 && few != s.need {
					t.Errorf("scene %d, %s: %d pages are enough, want %d", i, s.then.name, few, s.need)
				}
				r.tells(r.f, r.slow.plain)
				break
			}
			r.abort(was)
			r.do(s.then)
			r.agree()
		}
	}
}

// P11.2: no power is needed to tell that pages are missing, if there are too few whatever stands in the tree; nor a tree that is right.
func TestFullAheadOfAll(t *testing.T) {
	r := begun(t, 16)
	r.do(writes(3, data(100, 1)))
	r.commit()
	for _, free := range []int{0, 1, 5} {
		// So many chunks, and no page for a node above them; and one more.
		most := make([]byte, 238*free+1)
		calls := []call{
			{"Write", func(f *stream.File) api.Errno { return f.Write(3, most) }},
			{"Add", func(f *stream.File) api.Errno { return f.Add(4, most[:238*free], most[:1]) }},
		}
		if free > 0 {
			calls = append(calls,
				call{"Write", func(f *stream.File) api.Errno { return f.Write(3, most[1:]) }},
				call{"Add", func(f *stream.File) api.Errno { return f.Add(4, most[1:]) }})
		}
		fits := []call{{"Write", func(f *stream.File) api.Errno { return f.Write(4, make([]byte, 238*11)) }}}
		r.abort(stood{r.f.Root(), r.slow.plain, nil})
		hog, e := r.a.Take(r.a.Free() - free)
		if e != api.OK {
			t.Fatal(e)
		}
		// They aren't shadow: none of them can come to be free.
		r.a.Commit()
		r.unchanged("too few pages", api.ErrFull, calls...)
		r.d.Arm(0)
		r.unchanged("no writes left", api.ErrFull, calls...)
		r.d.Arm(-1)
		was, _ := r.d.Read(r.f.Root())
		r.d.Write(r.f.Root(), make([]byte, 256))
		r.unchanged("no node", api.ErrFull, calls...)
		r.d.Write(r.f.Root(), was)
		r.d.Sync()
		r.d.Crash()
		r.unchanged("no power", api.ErrFull, calls...)
		r.d.Power()
		r.a.Give(hog...)
		r.a.Commit()
		// With as many pages as could do the tree is asked.
		r.d.Crash()
		r.unchanged("no power", api.ErrDown, fits...)
		r.d.Power()
	}
}

// P11.2: nothing needs no page, even if none is free, nor will be.
func TestNothingNeedsNoPage(t *testing.T) {
	r := begun(t, 16)
	r.do(writes(3, data(100, 1)))
	r.leave(0)
	r.a.Commit()
	r.unchanged("no pages", api.OK,
		call{"Write of nothing", func(f *stream.File) api.Errno { return f.Write(4, nil) }},
		call{"Add of nothing", func(f *stream.File) api.Errno { return f.Add(3, nil) }},
		call{"Drop of nothing", func(f *stream.File) api.Errno { return f.Drop(4) }})
	// Without its only section a file has no nodes.
	if e := r.f.Write(3, nil); e != api.OK || r.f.Root() != 0 {
		t.Errorf("Write of nothing: %d, Root %d", e, r.f.Root())
	}
}

// P11.2: shadow pages that are given are free at once: what isn't committed is written over in as few pages.
func TestFullOfShadow(t *testing.T) {
	for _, n := range []int{1, 10, 16} {
		r := begun(t, 64)
		r.do(writes(5, data(238*n, 1)))
		r.leave(1)
		r.slow.write(5, data(238*n, 2))
		if e := r.f.Write(5, data(238*n, 2)); e != api.OK {
			t.Errorf("%d chunks: Write = %d", n, e)
		}
		r.tells(r.f, r.slow.plain)
		r.pages()
	}
}

// P11.2: 65536 chunks are too many for a device, but no more: one byte more is too long.
func TestTooLong(t *testing.T) {
	most := make([]byte, 65536*238+1)
	all := most[:65536*238]
	r := begun(t, 64)
	r.do(writes(1, data(100, 1)), writes(2, data(238*3, 2)))
	long := []call{
		{"Write", func(f *stream.File) api.Errno { return f.Write(1, most) }},
		{"Write of none", func(f *stream.File) api.Errno { return f.Write(0, most) }},
		{"Add", func(f *stream.File) api.Errno { return f.Add(1, most) }},
		{"Add in pieces", func(f *stream.File) api.Errno { return f.Add(0, all, nil, most[:1]) }},
		{"Add of very much", func(f *stream.File) api.Errno { return f.Add(0, slices.Repeat([][]byte{most}, 100)...) }},
	}
	behind := []call{
		{"Add behind 100", func(f *stream.File) api.Errno { return f.Add(1, most[:65536*238-99]) }},
		{"Add behind 714", func(f *stream.File) api.Errno { return f.Add(2, most[:65533*238], most[:1]) }},
	}
	full := []call{
		{"Write of all", func(f *stream.File) api.Errno { return f.Write(1, all) }},
		{"Add of all", func(f *stream.File) api.Errno { return f.Add(0, all) }},
		{"Add behind 100", func(f *stream.File) api.Errno { return f.Add(1, most[:65536*238-100]) }},
		{"Add behind 714", func(f *stream.File) api.Errno { return f.Add(2, most[:65533*238]) }},
	}
	check := func(what string) {
		r.unchanged(what, api.ErrLong, long...)
		r.unchanged(what, api.ErrLong, behind...)
		r.unchanged(what, api.ErrFull, full...)
	}
	check("at first")
	r.agree()
	was := r.commit()
	check("committed")
	r.leave(0)
	check("no pages")
	r.abort(was)
	r.d.Write(r.f.Root(), make([]byte, 256))
	r.unchanged("no node", api.ErrLong, long...)
	r.d.Crash()
	r.unchanged("no power", api.ErrLong, long...)
}

// P11.2: a great device: as much as it has room for, and a page more.
func TestAllOfADevice(t *testing.T) {
	d, a := made(t, 2048)
	f := opened(t, d, a, 0, 1)
	if e := f.Write(0, make([]byte, 238*2045)); e != api.ErrFull {
		t.Errorf("Write = %d", e)
	}
	a.Abort()
	f = opened(t, d, a, 0, 1)
	n := 1700
	if e := f.Write(0, data(238*n, 1)); e != api.OK {
		t.Fatal(e)
	}
	e := api.OK
	for ; e == api.OK; n++ {
		e = f.Add(0, data(238, n))
	}
	if e != api.ErrFull {
		t.Fatal(e)
	}
	// The last Add had no room: what was there is there.
	size, e := f.Size(0)
	if size != 238*(n-1) || e != api.OK || n < 1750 {
		t.Errorf("%d chunks: Size = %d %d", n-1, size, e)
	}
	pages, e := f.Pages()
	if len(pages) != 2046-a.Free() || e != api.OK {
		t.Errorf("%d pages %d, %d are taken", len(pages), e, 2046-a.Free())
	}
}

// P11.2: pages that the allocator has, and the device hasn't, are missing.
func TestSmallDevice(t *testing.T) {
	for pages := 3; pages < 12; pages++ {
		d, e := device.New(pages)
		a, f := alloc.New(64)
		if e != api.OK || f != api.OK {
			t.Fatal(e, f)
		}
		x := opened(t, d, a, 0, 1)
		if e := x.Write(0, data(238*10, 1)); e != api.ErrFull {
			t.Errorf("%d pages: Write = %d", pages, e)
		}
	}
}
