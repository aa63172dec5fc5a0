package cow

import (
	"incipit/api"
	"incipit/frame"
	"incipit/leaf"
)

// step is a node on a way down, its page, and by which of its entries the way goes on; by none, if it is a leaf.
type step struct {
	page, at int
	node     leaf.Node
}

// place is where a node is met: on which page, as which one on its way.
type place struct{ page, level int }

// node: the one that is met at a place.
func (t *Tree) node(at place) (leaf.Node, api.Errno) {
	if at.level > Deepest {
		return leaf.Node{}, api.ErrSum
	}
	f, e := frame.Read(t.device, at.page, Kind)
	if e == api.ErrDown {
		return leaf.Node{}, e
	}
	// A page that isn't on the device is no frame, either.
	if e != api.OK {
		return leaf.Node{}, api.ErrSum
	}
	n, e := leaf.Decode(f.Body)
	if e != api.OK {
		return leaf.Node{}, api.ErrSum
	}
	return n, api.OK
}

// down: the way from the root to the leaf where the key is or would be; without entries there is none.
func (t *Tree) down(k leaf.Key) ([]step, api.Errno) {
	var way []step
	page := t.root
going:
	for page != 0 {
		n, e := t.node(place{page, len(way) + 1})
		if e != api.OK {
			return nil, e
		}
		at, _ := n.Child(k)
		way = append(way, step{page: page, at: at, node: n})
		if n.Leaf {
			break going
		}
		page = n.L[at].Page
	}
	return way, api.OK
}

// seek: the way down to a key, and its page; the way beside ErrNone, too.
func (t *Tree) seek(k leaf.Key) ([]step, int, api.Errno) {
	if t.isNone() {
		return nil, 0, api.ErrState
	}
	if !leaf.Right(k) {
		return nil, 0, api.ErrRange
	}
	way, e := t.down(k)
	if e != api.OK {
		return nil, 0, e
	}
	n := end(way)
	i, there := n.Find(k)
	if !there {
		return way, 0, api.ErrNone
	}
	return way, n.L[i].Page, api.OK
}

// end: the leaf at the end of a way; where there is no way, it is without entries.
func end(way []step) leaf.Node {
	if len(way) == 0 {
		return leaf.Node{Leaf: true}
	}
	return way[len(way)-1].node
}

// walk visits all nodes, each ahead of those below it, from the left to the right.
func (t *Tree) walk(visit func(page int, n leaf.Node)) api.Errno {
	if !t.device.On() {
		return api.ErrDown
	}
	met := 0
	var through func(at place) api.Errno
	through = func(at place) api.Errno {
		if met == mostMet {
			return api.ErrSum
		}
		met++
		n, e := t.node(at)
		if e != api.OK {
			return e
		}
		visit(at.page, n)
		if n.Leaf {
			return api.OK
		}
		for _, x := range n.L {
			if e := through(place{x.Page, at.level + 1}); e != api.OK {
				return e
			}
		}
		return api.OK
	}
	if t.root == 0 {
		return api.OK
	}
	return through(place{t.root, 1})
}

// first: how many nodes are on the way to the first entry; 0 without one.
func (t *Tree) first() (int, api.Errno) {
	// Leaves may be without entries, and be met again and again: what had none at a place has none there.
	asked := map[place]struct{}{}
	var search func(at place) (int, api.Errno)
	search = func(at place) (int, api.Errno) {
		if _, again := asked[at]; again {
			return 0, api.OK
		}
		asked[at] = struct{}{}
		n, e := t.node(at)
		switch {
		case e != api.OK:
			return 0, e
		case n.Leaf && len(n.L) > 0:
			return at.level, api.OK
		case n.Leaf:
			return 0, api.OK
		}
		for _, x := range n.L {
			if level, e := search(place{x.Page, at.level + 1}); level > 0 || e != api.OK {
				return level, e
			}
		}
		return 0, api.OK
	}
	if t.root == 0 {
		return 0, api.OK
	}
	return search(place{t.root, 1})
}
