package stream_test

import (
	"bytes"
	"slices"
	"strconv"
	"testing"

	"incipit/alloc"
	"incipit/api"
	"incipit/cow"
	"incipit/device"
	"incipit/frame"
	"incipit/leaf"
	"incipit/stream"
)

// framed: the bytes of a frame.
func framed(t *testing.T, kind, page int, body []byte) []byte {
	t.Helper()
	b, e := frame.Encode(frame.Frame{Kind: kind, Epoch: 7, Page: page, Body: body})
	if e != api.OK {
		t.Fatal(e)
	}
	return b
}

// lay: these bytes stand on a page.
func (r *rig) lay(page int, b []byte) {
	r.t.Helper()
	if e := r.d.Write(page, b); e != api.OK {
		r.t.Fatal(e)
	}
}

// rest: what isn't spoilt tells what it told.
func (r *rig) rest(what string, sections ...int) {
	r.t.Helper()
	for _, section := range sections {
		if b, e := r.f.Read(section); !bytes.Equal(b, r.slow.plain[section]) || e != api.OK {
			r.t.Errorf("%s: Read(%d): %d bytes %d", what, section, len(b), e)
		}
	}
}

// P11.3: a chunk's page that is no such frame, or has no bytes: ErrSum in each call that reads the section, and nothing is changed; others read what they read.
func TestWrongChunks(t *testing.T) {
	for _, size := range []int{1, 238, 600, 714, 6000} {
		r := begun(t, 64)
		r.do(writes(0, data(300, 1)), writes(1, data(size, 2)), writes(2, data(200, 3)))
		pages := r.pages()
		first := len(pages) - count(200) - count(size)
		for no := range count(size) {
			page := pages[first+no]
			was, _ := r.d.Read(page)
			f, _ := frame.Decode(was)
			wrong := map[string][]byte{
				"all 0":        make([]byte, 256),
				"kind 1":       framed(t, 1, page, f.Body),
				"kind 2":       framed(t, 2, page, f.Body),
				"kind 4":       framed(t, 4, page, f.Body),
				"kind 9":       framed(t, 9, page, f.Body),
				"another page": framed(t, 3, page+1, f.Body),
				"no bytes":     framed(t, 3, page, nil),
				"a node":       nodes(t, r.d, r.f.Root()),
			}
			if no < count(size)-1 {
				for _, n := range []int{1, 100, 237} {
					wrong["bytes: "+strconv.Itoa(n)] = framed(t, 3, page, f.Body[:n])
				}
			}
			for _, at := range []int{0, 1, 2, 5, 6, 7, 8, 9, 10, 11, 130, 247, 248, 251, 252, 255} {
				b := slices.Clone(was)
				b[at] ^= 0x10
				wrong["turned at "+strconv.Itoa(at)] = b
			}
			for what, b := range wrong {
				r.lay(page, b)
				r.unchanged(what, api.ErrSum, readers(1)...)
				for _, c := range [][2]int{{0, 1}, {0, size}, {size, size}, {size - 1, size}} {
					if b, e := r.f.ReadAt(1, c[0], c[1]); b != nil || e != api.ErrSum {
						t.Errorf("%s, chunk %d of %d bytes: ReadAt%v = %v %d", what, no, size, c, b, e)
					}
				}
				r.rest(what, 0, 2)
				// These tell what the tree tells.
				r.pages()
				if l, e := r.f.Sections(); !slices.Equal(l, []int{0, 1, 2}) || e != api.OK {
					t.Errorf("%s: Sections = %v %d", what, l, e)
				}
				r.lay(page, was)
			}
		}
		r.agree()
	}
}

// nodes: the bytes of a node's page.
func nodes(t *testing.T, d *device.Device, page int) []byte {
	t.Helper()
	b, e := d.Read(page)
	if e != api.OK {
		t.Fatal(e)
	}
	return b
}

// P11.3: each byte of a chunk's page, turned.
func TestEachByteTurned(t *testing.T) {
	r := begun(t, 16)
	r.do(writes(1, data(400, 2)))
	for _, page := range r.pages()[1:] {
		was, _ := r.d.Read(page)
		for at := range was {
			b := slices.Clone(was)
			b[at]++
			r.lay(page, b)
			r.unchanged("turned", api.ErrSum, readers(1)...)
		}
		r.lay(page, was)
	}
	r.agree()
}

// P11.1, P11.3: the last chunk may have fewer bytes, whatever was written; one that is full may be made so, too.
func TestShortLastChunk(t *testing.T) {
	r := begun(t, 16)
	r.do(writes(1, data(476, 2)))
	pages := r.pages()
	for _, n := range []int{1, 100, 237, 238} {
		r.lay(pages[2], framed(t, 3, pages[2], data(476, 2)[238:238+n]))
		if b, e := r.f.Read(1); !bytes.Equal(b, data(476, 2)[:238+n]) || e != api.OK {
			t.Errorf("%d: Read: %d bytes %d", n, len(b), e)
		}
		if size, e := r.f.Size(1); size != 238+n || e != api.OK {
			t.Errorf("%d: Size = %d %d", n, size, e)
		}
	}
	// The epoch of a chunk may be any.
	b, _ := frame.Encode(frame.Frame{Kind: 3, Epoch: 0, Page: pages[1], Body: data(238, 5)})
	r.lay(pages[1], b)
	if b, e := r.f.ReadAt(1, 0, 238); !bytes.Equal(b, data(238, 5)) || e != api.OK {
		t.Errorf("another epoch: %d bytes %d", len(b), e)
	}
}

// P11.2: a chunk that is wrong needn't be read to be written over, or dropped.
func TestChangeOfWrongChunks(t *testing.T) {
	for _, c := range []change{writes(1, data(1000, 9)), writes(1, nil), drops(1)} {
		for no := range 3 {
			r := begun(t, 64)
			r.do(writes(0, data(300, 1)), writes(1, data(600, 2)))
			r.commit()
			pages := r.pages()
			r.lay(pages[len(pages)-1-no], make([]byte, 256))
			r.do(c)
		}
	}
}

// tree: the file's tree, by itself.
func (r *rig) tree() *cow.Tree {
	r.t.Helper()
	x, e := cow.Open(r.d, r.a, r.f.Root(), r.epoch)
	if e != api.OK {
		r.t.Fatal(e)
	}
	return x
}

// reopen: the file of that tree, as it is now.
func (r *rig) reopen(x *cow.Tree) { r.f = opened(r.t, r.d, r.a, x.Root(), r.epoch) }

// broken: all calls tell that a section is wrong, and nothing is changed; the other sections are read.
func (r *rig) broken(what string, section int) {
	r.t.Helper()
	r.unchanged(what, api.ErrSum, slices.Concat(readers(section), changers(section), ofAll())...)
	for other := range 16 {
		if other != section {
			r.rest(what, other)
		}
	}
}

// P11.3: a number that is missing, be it the first one, one between, or all up to the last one that there may be.
func TestMissingNumbers(t *testing.T) {
	for _, section := range []int{0, 7, 15} {
		for _, missing := range [][]int{{0}, {1}, {5}, {18}, {0, 1, 2}, {3, 7}} {
			r := begun(t, 128)
			r.do(writes(section, data(238*20-9, 1)), writes((section+1)%16, data(300, 2)))
			x := r.tree()
			for _, no := range missing {
				if _, e := x.Drop(k(section, no)); e != api.OK {
					t.Fatal(e)
				}
			}
			r.reopen(x)
			r.broken("missing", section)
		}
		// Without its last chunk a section is shorter, and right.
		r := begun(t, 128)
		r.do(writes(section, data(238*20-9, 1)))
		x := r.tree()
		x.Drop(k(section, 19))
		r.reopen(x)
		if n, e := r.f.Size(section); n != 238*19 || e != api.OK {
			t.Errorf("Size = %d %d", n, e)
		}
	}
}

// P11.1, P11.3: the last chunk that a section may have is its own, and asks for all ahead of it.
func TestLastNumber(t *testing.T) {
	for _, section := range []int{0, 7, 14, 15} {
		for _, no := range []int{20, 21, 1000, 65534, 65535} {
			for _, n := range []int{0, 19} {
				r := begun(t, 128)
				r.do(writes(section, data(238*n, 1)), writes((section+1)%16, data(300, 2)), writes((section+15)%16, data(500, 2)))
				l, _ := r.a.Take(1)
				r.lay(l[0], framed(t, 3, l[0], data(238, 4)))
				x := r.tree()
				if _, e := x.Put(k(section, no), l[0]); e != api.OK {
					t.Fatal(e)
				}
				r.reopen(x)
				r.broken("far behind", section)
			}
		}
	}
}

// P11.3: a chunk's page that isn't on the device.
func TestPageBehindTheDevice(t *testing.T) {
	for _, page := range []int{64, 100, 2047} {
		r := begun(t, 64)
		r.do(writes(3, data(600, 1)), writes(4, data(10, 1)))
		x := r.tree()
		if _, e := x.Put(k(3, 1), page); e != api.OK {
			t.Fatal(e)
		}
		r.reopen(x)
		r.unchanged("no such page", api.ErrSum, readers(3)...)
		r.rest("no such page", 4)
		if l, e := r.f.Pages(); l[len(l)-3] != page || e != api.OK {
			t.Errorf("Pages = %v %d", l, e)
		}
		// It can't be given; all others are.
		if e := r.f.Drop(3); e != api.OK {
			t.Errorf("Drop = %d", e)
		}
		r.slow.plain[3] = nil
		r.tells(r.f, r.slow.plain)
	}
}

// P11.3: nodes that are wrong, whichever: ErrSum in each call.
func TestWrongNodes(t *testing.T) {
	r := begun(t, 256)
	r.do(writes(3, data(238*40, 1)), writes(4, data(10, 1)))
	x := r.tree()
	l, _ := x.Nodes()
	for _, page := range l {
		was := nodes(t, r.d, page)
		turned := slices.Clone(was)
		turned[20]++
		for _, b := range [][]byte{make([]byte, 256), turned, framed(t, 3, page, []byte("chunk")), framed(t, 2, page, nil), framed(t, 2, page, []byte{2, 0})} {
			r.lay(page, b)
			for _, section := range []int{0, 3, 4, 15} {
				r.unchanged("no node", api.ErrSum, slices.Concat(readers(section), changers(section), ofAll())...)
			}
		}
		r.lay(page, was)
	}
	r.agree()
	// A root that is none, or isn't on the device.
	for _, root := range []int{200, 256, 2047} {
		r.f = opened(t, r.d, r.a, root, 1)
		r.unchanged("no root", api.ErrSum, slices.Concat(readers(3), changers(3), ofAll())...)
	}
}

// crafted is a device with nodes and chunks that were laid by hand.
type crafted struct{ *rig }

func craft(t *testing.T) crafted { return crafted{begun(t, 64)} }

func (c crafted) node(page int, asLeaf bool, l ...leaf.Entry) {
	c.t.Helper()
	body, e := leaf.Encode(leaf.Node{Leaf: asLeaf, L: l})
	if e != api.OK {
		c.t.Fatal(e)
	}
	c.lay(page, framed(c.t, 2, page, body))
}

func (c crafted) chunk(page int, body []byte) {
	c.t.Helper()
	c.lay(page, framed(c.t, 3, page, body))
}

// of: the file of a root, whose pages are all committed.
func (c crafted) of(root int) *stream.File {
	c.t.Helper()
	for page := 2; page < 50; page++ {
		if c.a.Kind(page) == alloc.Free {
			c.a.Adopt(page)
		}
	}
	c.a.Commit()
	c.f = opened(c.t, c.d, c.a, root, 9)
	return c.f
}

// x: an entry.
func x(section, no, page int) leaf.Entry { return leaf.Entry{Key: k(section, no), Page: page} }

// P11.1: chunks are told by Range, whatever keys stand above them; but the last one that there may be by Get, which goes by these.
func TestKeysAboveThatDoNotFit(t *testing.T) {
	c := craft(t)
	b := data(700, 1)
	for no := range 3 {
		c.chunk(20+no, b[238*no:min(700, 238*no+238)])
	}
	c.chunk(30, []byte("far"))
	// The leaf of page 3 is looked for behind the key 9 0, that of page 4 behind 11 0.
	c.node(2, false, x(9, 0, 3), x(11, 0, 4))
	c.node(3, true, x(1, 0, 20), x(1, 1, 21))
	c.node(4, true, x(1, 2, 22), x(1, 65535, 30))
	f := c.of(2)
	if got, e := f.Read(1); !bytes.Equal(got, b) || e != api.OK {
		t.Errorf("Read: %d bytes %d", len(got), e)
	}
	if l, e := f.Sections(); !slices.Equal(l, []int{1}) || e != api.OK {
		t.Errorf("Sections = %v %d", l, e)
	}
	if l, e := f.Pages(); !slices.Equal(l, []int{2, 3, 4, 20, 21, 22}) || e != api.OK {
		t.Errorf("Pages = %v %d", l, e)
	}
	// Going down doesn't lead to the chunk that would be written anew, or be gone.
	for _, call := range []call{readers(1)[3], changers(1)[0], changers(1)[2]} {
		c.a.Abort()
		f := c.of(2)
		if e := call.do(f); e != api.ErrSum {
			t.Errorf("%s: %d", call.name, e)
		}
	}
	// Where going down leads to the last one, it is told.
	c.node(2, false, x(1, 0, 3), x(1, 2, 4))
	f = c.of(2)
	c.unchanged("far behind", api.ErrSum, slices.Concat(readers(1), changers(1), ofAll())...)
}

// P11.3: chunks that are told in another order, or twice, aren't all the numbers one by one.
func TestTurnedOrder(t *testing.T) {
	c := craft(t)
	for page := 20; page < 24; page++ {
		c.chunk(page, data(238, page))
	}
	c.node(3, true, x(1, 0, 20))
	c.node(4, true, x(1, 1, 21))
	c.node(5, true, x(2, 0, 22))
	// Turned round.
	c.node(2, false, x(1, 0, 4), x(1, 1, 3), x(2, 0, 5))
	f := c.of(2)
	c.unchanged("turned round", api.ErrSum, slices.Concat(readers(1), changers(1), ofAll())...)
	if b, e := f.Read(2); !bytes.Equal(b, data(238, 22)) || e != api.OK {
		t.Errorf("Read(2): %d bytes %d", len(b), e)
	}
	// Told twice.
	c.node(2, false, x(1, 0, 3), x(1, 1, 3), x(1, 2, 4), x(2, 0, 5))
	c.of(2)
	c.unchanged("told twice", api.ErrSum, slices.Concat(readers(1), changers(1), ofAll())...)
	// Sections in another order are read each by itself, and told by their numbers.
	c.node(2, false, x(1, 0, 5), x(1, 1, 3), x(2, 0, 4))
	f = c.of(2)
	if b, e := f.Read(1); !bytes.Equal(b, slices.Concat(data(238, 20), data(238, 21))) || e != api.OK {
		t.Errorf("Read(1): %d bytes %d", len(b), e)
	}
	if l, e := f.Sections(); !slices.Equal(l, []int{1, 2}) || e != api.OK {
		t.Errorf("Sections = %v %d", l, e)
	}
	if l, e := f.Pages(); !slices.Equal(l, []int{2, 5, 3, 4, 20, 21, 22}) || e != api.OK {
		t.Errorf("Pages = %v %d", l, e)
	}
}

// P1, P11.2: pages that the allocator doesn't have as taken can't be given: all else is done.
func TestPagesThatAreNotTaken(t *testing.T) {
	had := slices.Concat(data(238, 1), data(238, 1), data(5, 1))
	wants := map[string][]byte{"Add": append(slices.Clone(had), "more"...), "Write": []byte("new"), "Write of nothing": nil, "Drop": nil}
	for _, call := range slices.Concat(readers(1), changers(1), ofAll()) {
		c := craft(t)
		c.chunk(50, data(238, 1))
		c.chunk(51, data(5, 1))
		c.node(40, true, x(1, 0, 50), x(1, 1, 50), x(1, 2, 51))
		f := opened(t, c.d, c.a, 40, 9)
		want, ok := wants[call.name]
		if !ok {
			want = had
		}
		if e := call.do(f); e != api.OK {
			t.Errorf("%s: %d", call.name, e)
		}
		if b, e := f.Read(1); !bytes.Equal(b, want) || e != api.OK {
			t.Errorf("%s: Read: %d bytes %d, want %d", call.name, len(b), e, len(want))
		}
	}
}

// P1, P11.3: a node's page that is told as a chunk's, too, is no chunk; each call ends.
func TestNodeAsChunk(t *testing.T) {
	check := func(want api.Errno, calls ...call) {
		for _, one := range calls {
			c := craft(t)
			c.node(2, true, x(1, 0, 2), x(1, 1, 2))
			if e := one.do(c.of(2)); e != want {
				t.Errorf("%s: %d, want %d", one.name, e, want)
			}
		}
	}
	check(api.ErrSum, readers(1)...)
	check(api.OK, slices.Concat(changers(1), ofAll())...)
}
