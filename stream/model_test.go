package stream_test

import (
	"bytes"
	"slices"
	"testing"

	"incipit/alloc"
	"incipit/api"
	"incipit/cow"
	"incipit/device"
	"incipit/frame"
	"incipit/leaf"
	"incipit/stream"
)

// k: a key.
func k(section, no int) leaf.Key { return leaf.Key{Section: section, No: no} }

// dice tells numbers of no simple order, the same ones for the same seed.
type dice uint32

func (d *dice) below(n int) int {
	*d = *d*1664525 + 1013904223
	return int(*d>>8) % n
}

// data: so many bytes, of which no two chunks have the same ones.
func data(n, seed int) []byte {
	b := make([]byte, n)
	dice := dice(seed)
	for i := range b {
		b[i] = byte(dice.below(256))
	}
	return b
}

// slow is sections of bytes as the chapter's words tell them, step by step, in a tree of its own on a device of its own.
type slow struct {
	d     *device.Device
	a     *alloc.Alloc
	x     *cow.Tree
	epoch int
	plain [16][]byte
}

// count: how many chunks so many bytes are.
func count(n int) int {
	chunks := 0
	for n > 0 {
		n -= 238
		chunks++
	}
	return chunks
}

// drop: the chunks that it has are given, and gone from the tree, the last one first.
func (s *slow) drop(section int) api.Errno {
	for no := count(len(s.plain[section])) - 1; no >= 0; no-- {
		page, e := s.x.Get(k(section, no))
		if e != api.OK {
			return e
		}
		if e := s.a.Give(page); e != api.OK {
			return e
		}
		if _, e := s.x.Drop(k(section, no)); e != api.OK {
			return e
		}
	}
	s.plain[section] = nil
	return api.OK
}

// chunk: a page is taken, written, and put into the tree; the one that the chunk had is given.
func (s *slow) chunk(section, no int, b []byte) api.Errno {
	l, e := s.a.Take(1)
	if e != api.OK {
		return e
	}
	if e := frame.Write(s.d, frame.Frame{Kind: 3, Epoch: s.epoch, Page: l[0], Body: b}); e != api.OK {
		return e
	}
	had, e := s.x.Put(k(section, no), l[0])
	if e != api.OK || had == 0 {
		return e
	}
	return s.a.Give(had)
}

// chunks: those from a number on.
func (s *slow) chunks(section, no int, b []byte) api.Errno {
	for ; no < count(len(b)); no++ {
		if e := s.chunk(section, no, b[238*no:min(238*no+238, len(b))]); e != api.OK {
			return e
		}
	}
	s.plain[section] = slices.Clone(b)
	return api.OK
}

func (s *slow) write(section int, b []byte) api.Errno {
	if e := s.drop(section); e != api.OK {
		return e
	}
	return s.chunks(section, 0, b)
}

func (s *slow) add(section int, pieces ...[]byte) api.Errno {
	more := slices.Concat(pieces...)
	if len(more) == 0 {
		return api.OK
	}
	had := s.plain[section]
	return s.chunks(section, len(had)/238, slices.Concat(had, more))
}

// rig is a file and the slow one, which go the same way.
type rig struct {
	t     *testing.T
	d     *device.Device
	a     *alloc.Alloc
	f     *stream.File
	epoch int
	slow  *slow
	// seldom: all is compared behind each so many-th change.
	seldom, done int
}

// opened: a file that Open must answer.
func opened(t *testing.T, d *device.Device, a *alloc.Alloc, root, epoch int) *stream.File {
	t.Helper()
	f, e := stream.Open(d, a, root, epoch)
	if e != api.OK || f == nil {
		t.Fatalf("Open of %d, %d: %v %d", root, epoch, f, e)
	}
	return f
}

// made: a device, and an allocator of as many pages.
func made(t *testing.T, pages int) (*device.Device, *alloc.Alloc) {
	t.Helper()
	d, e := device.New(pages)
	a, f := alloc.New(pages)
	if e != api.OK || f != api.OK {
		t.Fatal(e, f)
	}
	return d, a
}

// begun: a file without bytes, of epoch 7.
func begun(t *testing.T, pages int) *rig {
	t.Helper()
	r := &rig{t: t, slow: &slow{}}
	r.d, r.a = made(t, pages)
	r.slow.d, r.slow.a = made(t, pages)
	r.open(0, 7)
	return r
}

// open: both of a root, of an epoch.
func (r *rig) open(root, epoch int) {
	r.t.Helper()
	r.epoch, r.slow.epoch = epoch, epoch
	r.f = opened(r.t, r.d, r.a, root, epoch)
	x, e := cow.Open(r.slow.d, r.slow.a, root, epoch)
	if e != api.OK {
		r.t.Fatal(e)
	}
	r.slow.x = x
}

// change is one that a file and the slow one know.
type change struct {
	name string
	of   func(f *stream.File) api.Errno
	slow func(s *slow) api.Errno
}

func writes(section int, b []byte) change {
	return change{
		"Write",
		func(f *stream.File) api.Errno { return f.Write(section, b) },
		func(s *slow) api.Errno { return s.write(section, b) },
	}
}

func adds(section int, b ...[]byte) change {
	return change{
		"Add",
		func(f *stream.File) api.Errno { return f.Add(section, b...) },
		func(s *slow) api.Errno { return s.add(section, b...) },
	}
}

func drops(section int) change {
	return change{
		"Drop",
		func(f *stream.File) api.Errno { return f.Drop(section) },
		func(s *slow) api.Errno { return s.drop(section) },
	}
}

// do: the changes are made by both, each with as many writes.
func (r *rig) do(l ...change) {
	r.t.Helper()
	for _, c := range l {
		_, was, syncs := r.d.Counts()
		_, slowly, _ := r.slow.d.Counts()
		if e := c.slow(r.slow); e != api.OK {
			r.t.Fatalf("the slow %s: %d", c.name, e)
		}
		if e := c.of(r.f); e != api.OK {
			r.t.Fatalf("%s: %d", c.name, e)
		}
		_, now, then := r.d.Counts()
		if _, n, _ := r.slow.d.Counts(); now-was != n-slowly || then != syncs {
			r.t.Fatalf("%s: %d writes, %d syncs, want %d, 0", c.name, now-was, then-syncs, n-slowly)
		}
		if r.done++; r.seldom == 0 || r.done%r.seldom == 0 {
			r.agree()
		}
	}
}

// agree: the file tells what the slow one has, and stands where that one stands.
func (r *rig) agree() {
	r.t.Helper()
	if r.f.Root() != r.slow.x.Root() || !alloc.Same(r.a, r.slow.a) {
		r.t.Fatalf("Root %d, want %d; the same pages are free: %v", r.f.Root(), r.slow.x.Root(), alloc.Same(r.a, r.slow.a))
	}
	r.tells(r.f, r.slow.plain)
	pages := r.pages()
	for _, page := range pages {
		b, e := r.d.Read(page)
		want, f := r.slow.d.Read(page)
		if e != api.OK || f != api.OK || !bytes.Equal(b, want) {
			r.t.Fatalf("page %d is another one: %d %d", page, e, f)
		}
	}
	slices.Sort(pages)
	if taken := r.taken(); !slices.Equal(pages, taken) {
		r.t.Fatalf("taken are %v, the file's are %v", taken, pages)
	}
}

// tells: what a file tells of all sections is these bytes.
func (r *rig) tells(f *stream.File, plain [16][]byte) {
	r.t.Helper()
	var some []int
	for section, want := range plain {
		if len(want) > 0 {
			some = append(some, section)
		}
		if b, e := f.Read(section); !bytes.Equal(b, want) || e != api.OK {
			r.t.Fatalf("Read(%d): %d bytes %d, want %d", section, len(b), e, len(want))
		}
		if n, e := f.Size(section); n != len(want) || e != api.OK {
			r.t.Fatalf("Size(%d) = %d %d, want %d", section, n, e, len(want))
		}
		from := len(want) / 3
		if b, e := f.ReadAt(section, from, len(want)); !bytes.Equal(b, want[from:]) || e != api.OK {
			r.t.Fatalf("ReadAt(%d, %d, %d): %d bytes %d", section, from, len(want), len(b), e)
		}
	}
	if l, e := f.Sections(); !slices.Equal(l, some) || e != api.OK {
		r.t.Fatalf("Sections = %v %d, want %v", l, e, some)
	}
}

// pages: what Pages tells is the tree's nodes, as a tree of that root tells them, and then each chunk's, by keys.
func (r *rig) pages() []int {
	r.t.Helper()
	x, e := cow.Open(r.d, r.a, r.f.Root(), 1)
	if e != api.OK {
		r.t.Fatal(e)
	}
	want, e := x.Nodes()
	if e != api.OK {
		r.t.Fatal(e)
	}
	for section, b := range r.slow.plain {
		for no := range count(len(b)) {
			page, e := x.Get(k(section, no))
			if e != api.OK {
				r.t.Fatalf("chunk %d %d isn't in the tree: %d", section, no, e)
			}
			want = append(want, page)
		}
	}
	l, e := r.f.Pages()
	if !slices.Equal(l, want) || e != api.OK {
		r.t.Fatalf("Pages = %v %d, want %v", l, e, want)
	}
	return l
}

// taken: the pages that are shadow, or committed and not pending.
func (r *rig) taken() []int {
	var l []int
	for page := range r.a.Pages() {
		if kind := r.a.Kind(page); kind == alloc.Committed || kind == alloc.Shadow {
			l = append(l, page)
		}
	}
	return l
}

// stood is what was committed: where, what it told, and the bytes of its pages.
type stood struct {
	root  int
	plain [16][]byte
	bytes map[int][]byte
}

// commit: what is there is committed, and the next epoch begins.
func (r *rig) commit() stood {
	r.t.Helper()
	for _, d := range []*device.Device{r.d, r.slow.d} {
		if e := d.Sync(); e != api.OK {
			r.t.Fatal(e)
		}
	}
	r.a.Commit()
	r.slow.a.Commit()
	was := stood{r.f.Root(), r.slow.plain, map[int][]byte{}}
	for _, page := range r.pages() {
		was.bytes[page], _ = r.d.Read(page)
	}
	r.open(was.root, r.epoch+1)
	r.agree()
	return was
}

// stands: what was committed is where it was, and a file opened there reads what it read.
func (r *rig) stands(was stood) {
	r.t.Helper()
	for page, want := range was.bytes {
		if b, e := r.d.Read(page); !bytes.Equal(b, want) || e != api.OK {
			r.t.Fatalf("page %d was committed, and is another one: %d", page, e)
		}
	}
	r.tells(opened(r.t, r.d, r.a, was.root, 1), was.plain)
}

// abort: what was committed is there again.
func (r *rig) abort(was stood) {
	r.t.Helper()
	r.a.Abort()
	r.slow.a.Abort()
	r.slow.plain = was.plain
	r.open(was.root, r.epoch)
	r.agree()
}

// leave: all pages but so many are taken, in both.
func (r *rig) leave(n int) {
	r.t.Helper()
	for _, a := range []*alloc.Alloc{r.a, r.slow.a} {
		if _, e := a.Take(a.Free() - n); e != api.OK {
			r.t.Fatal(e)
		}
	}
}

// unchanged: a call tells this error, and changes nothing: neither the root, nor what is free, nor what is written.
func (r *rig) unchanged(what string, want api.Errno, calls ...call) {
	r.t.Helper()
	for _, c := range calls {
		root := r.f.Root()
		x, y, z := r.a.Sets()
		before := [][]int{x.All(), y.All(), z.All()}
		_, writes, syncs := r.d.Counts()
		if e := c.do(r.f); e != want {
			r.t.Errorf("%s: %s: %d, want %d", what, c.name, e, want)
		}
		x, y, z = r.a.Sets()
		if !slices.EqualFunc(before, [][]int{x.All(), y.All(), z.All()}, slices.Equal) || r.f.Root() != root {
			r.t.Errorf("%s: %s has changed what is free, or the root", what, c.name)
		}
		if _, w, s := r.d.Counts(); w != writes || s != syncs {
			r.t.Errorf("%s: %s has written", what, c.name)
		}
	}
}

// call is one of the calls, as its error alone; beside one every other answer must be nothing.
type call struct {
	name string
	do   func(f *stream.File) api.Errno
}

// told: of an answer and an error, the error; ErrKind, which no call has, if there is an answer beside one.
func told(some bool, e api.Errno) api.Errno {
	if some && e != api.OK {
		return api.ErrKind
	}
	return e
}

// readers: the calls that read a section's bytes.
func readers(section int) []call {
	return []call{
		{"Read", func(f *stream.File) api.Errno {
			b, e := f.Read(section)
			return told(b != nil, e)
		}},
		{"ReadAt", func(f *stream.File) api.Errno {
			b, e := f.ReadAt(section, 0, 0)
			return told(b != nil, e)
		}},
		{"Size", func(f *stream.File) api.Errno {
			n, e := f.Size(section)
			return told(n != 0, e)
		}},
		{"Add", func(f *stream.File) api.Errno { return f.Add(section, []byte("more")) }},
		{"Add of nothing", func(f *stream.File) api.Errno { return f.Add(section) }},
	}
}

// changers: the calls that change a section, and don't read its bytes.
func changers(section int) []call {
	return []call{
		{"Write", func(f *stream.File) api.Errno { return f.Write(section, []byte("new")) }},
		{"Write of nothing", func(f *stream.File) api.Errno { return f.Write(section, nil) }},
		{"Drop", func(f *stream.File) api.Errno { return f.Drop(section) }},
	}
}

// ofAll: the calls of no section.
func ofAll() []call {
	return []call{
		{"Sections", func(f *stream.File) api.Errno {
			l, e := f.Sections()
			return told(l != nil, e)
		}},
		{"Pages", func(f *stream.File) api.Errno {
			l, e := f.Pages()
			return told(l != nil, e)
		}},
	}
}
