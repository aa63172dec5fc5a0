package stream

import (
	"incipit/api"
	"incipit/frame"
	"incipit/leaf"
)

// check: what is wrong ahead of all reading.
func (f *File) check(section int) api.Errno {
	switch {
	case f.isNone():
		return api.ErrState
	case section < 0 || section >= sections:
		return api.ErrRange
	}
	return api.OK
}

// chunks: where those of a section are, by their numbers.
func (f *File) chunks(section int) ([]leaf.Entry, api.Errno) {
	if e := f.check(section); e != api.OK {
		return nil, e
	}
	all, e := f.among(section, section)
	if e != api.OK {
		return nil, e
	}
	return all[0], api.OK
}

// among: where the chunks of some sections are, section by section; the tree is gone through once for all of them.
func (f *File) among(first, last int) ([][]leaf.Entry, api.Errno) {
	if f.isNone() {
		return nil, api.ErrState
	}
	told, e := f.Range(leaf.Key{Section: first}, leaf.Key{Section: last, No: lastNo})
	if e != api.OK {
		return nil, e
	}
	all := make([][]leaf.Entry, last-first+1)
	for _, x := range told {
		// A section's last chunk is told by Get alone.
		if x.Key.No < lastNo {
			all[x.Key.Section-first] = append(all[x.Key.Section-first], x)
		}
	}
	for i := range all {
		all[i], e = f.whole(first+i, all[i])
		if e != api.OK {
			return nil, e
		}
	}
	return all, api.OK
}

// whole: a section's chunks but the last one that it may have, and that one, if it is there; none is missing.
func (f *File) whole(section int, l []leaf.Entry) ([]leaf.Entry, api.Errno) {
	last := leaf.Key{Section: section, No: lastNo}
	page, e := f.Get(last)
	switch e {
	case api.OK:
		l = append(l, leaf.Entry{Key: last, Page: page})
	case api.ErrNone:
	default:
		return nil, e
	}
	for i, x := range l {
		if x.Key.No != i {
			return nil, api.ErrSum
		}
	}
	return l, api.OK
}

// load: where the chunks of a section are, and its bytes.
func (f *File) load(section int) ([]leaf.Entry, []byte, api.Errno) {
	l, e := f.chunks(section)
	if e != api.OK {
		return nil, nil, e
	}
	var b []byte
	for i, x := range l {
		body, e := f.body(x.Page)
		if e != api.OK {
			return nil, nil, e
		}
		if i < len(l)-1 && len(body) < Chunk {
			return nil, nil, api.ErrSum
		}
		b = append(b, body...)
	}
	return l, b, api.OK
}

// body: the bytes of the chunk on a page.
func (f *File) body(page int) ([]byte, api.Errno) {
	x, e := frame.Read(f.device, page, Kind)
	if e == api.ErrDown {
		return nil, e
	}
	// A page that isn't on the device is no frame, either.
	if e != api.OK || len(x.Body) == 0 {
		return nil, api.ErrSum
	}
	return x.Body, api.OK
}
