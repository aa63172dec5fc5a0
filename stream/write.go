package stream

import (
	"slices"

	"incipit/api"
	"incipit/frame"
	"incipit/leaf"
)

// pen writes the chunks of a section, one behind the other.
type pen struct {
	*File
	// at is the key of the chunk that is written next.
	at leaf.Key
	// begun is what that chunk has so far.
	begun []byte
	// old is the page of the chunk that has this key; 0 of none.
	old int
}

// pen: one that writes from a chunk on.
func (f *File) pen(section, no int) *pen {
	return &pen{File: f, at: leaf.Key{Section: section, No: no}}
}

// begin: the next chunk stands on this page, and has these bytes, which are kept; the writing goes on behind them.
func (p *pen) begin(page int, b []byte) { p.old, p.begun = page, b }

// write: these pieces, one behind the other.
func (p *pen) write(pieces ...[]byte) api.Errno {
writing:
	for _, b := range pieces {
		for len(b) > 0 {
			n := min(len(b), Chunk-len(p.begun))
			p.begun = append(p.begun, b[:n:n]...)
			b = b[n:]
			if len(p.begun) < Chunk {
				continue writing
			}
			if e := p.lay(); e != api.OK {
				return e
			}
		}
	}
	if len(p.begun) == 0 {
		return api.OK
	}
	return p.lay()
}

// lay: what was begun is a chunk of the section, and the next one begins.
func (p *pen) lay() api.Errno {
	l, e := p.alloc.Take(1)
	if e != api.OK {
		return e
	}
	had, e := p.stand(l[0])
	if e != api.OK {
		// It isn't the file's: so all that is taken is, beside an error, too.
		p.alloc.Give(l...)
		return e
	}
	// Keys above that don't fit led elsewhere than to the chunk that was read.
	if had != p.old {
		return api.ErrSum
	}
	if had != 0 {
		p.alloc.Give(had)
	}
	p.at.No++
	p.begun, p.old = nil, 0
	return api.OK
}

// stand: the chunk is written to a page, and put into the tree; the page that it had there.
func (p *pen) stand(page int) (int, api.Errno) {
	// The allocator may have pages that the device hasn't.
	if page >= p.device.Pages() {
		return 0, api.ErrFull
	}
	e := frame.Write(p.device, frame.Frame{Kind: Kind, Epoch: p.epoch, Page: page, Body: p.begun})
	if e != api.OK {
		return 0, e
	}
	return p.Put(p.at, page)
}

// remove: these chunks' pages are given, and they are gone from the tree.
// Pages that the allocator doesn't have as taken can't be given, and are passed over.
func (f *File) remove(l []leaf.Entry) api.Errno {
	for _, x := range slices.Backward(l) {
		f.alloc.Give(x.Page)
		_, e := f.Tree.Drop(x.Key)
		switch e {
		case api.OK:
		case api.ErrNone:
			// Range told it, but keys above that don't fit lead elsewhere.
			return api.ErrSum
		default:
			return e
		}
	}
	return api.OK
}

// mayGrow: what is wrong ahead of all reading with so many bytes for a section.
func (f *File) mayGrow(section, bytes int) api.Errno {
	if e := f.check(section); e != api.OK {
		return e
	}
	if bytes > mostBytes {
		return api.ErrLong
	}
	return api.OK
}

// isShort: are pages missing for so many bytes, whatever the tree is? Each
// chunk needs one, and a node above them; they can't be other ones than those
// that are free, or are shadow and given ahead.
func (f *File) isShort(bytes int) bool {
	if bytes == 0 {
		return false
	}
	_, shadow, _ := f.alloc.Sets()
	chunks := (bytes + Chunk - 1) / Chunk
	return chunks+1 > f.alloc.Free()+shadow.Count()
}

// total: how many bytes the pieces have in all.
func total(pieces [][]byte) int {
	n := 0
	for _, b := range pieces {
		n += len(b)
	}
	return n
}
