package cow

import (
	"slices"

	"incipit/alloc"
	"incipit/api"
	"incipit/frame"
	"incipit/leaf"
)

// job is a change of a tree. What is written and given is gathered in it
// first: the tree and what is free are as they were till all is written.
type job struct {
	*Tree
	// fresh is the nodes that are to be written, those below ahead of those
	// above. They have no pages till it is known how many there are: till then
	// ^i, which is no page, stands for that of fresh[i].
	fresh []leaf.Node
	// gone is the pages that aren't the tree's any more.
	gone []int
}

// change: these leaves stand at the end of the way instead of the one there.
func (t *Tree) change(way []step, leaves ...leaf.Node) api.Errno {
	j := &job{Tree: t}
	l := j.add(leaves...)
	for _, s := range slices.Backward(way) {
		j.gone = append(j.gone, s.page)
		if !s.node.Leaf {
			l = j.add(cut(slices.Concat(s.node.L[:s.at], l, s.node.L[s.at+1:]))...)
		}
	}
	if len(l) > 1 {
		// With one more above it the leaf would be the ninth on its way: such a tree can't be read.
		if len(way) == Deepest {
			return api.ErrFull
		}
		l = j.add(leaf.Node{L: l})
	}
	root, e := j.top(l)
	if e != api.OK {
		return e
	}
	return j.finish(root)
}

// add: nodes are to be written; the entries that lead to them.
func (j *job) add(nodes ...leaf.Node) []leaf.Entry {
	var l []leaf.Entry
	for _, n := range nodes {
		l = append(l, leaf.Entry{Key: n.L[0].Key, Page: ^len(j.fresh)})
		j.fresh = append(j.fresh, n)
	}
	return l
}

// top: the page of the root, to which the topmost entry leads, if there is one;
// a root with one entry alone is left out, as is the next one, if it is such a root then.
func (j *job) top(l []leaf.Entry) (int, api.Errno) {
	if len(l) == 0 {
		return 0, api.OK
	}
	root := place{l[0].Page, 1}
	for {
		// What leads back to a page that is gone is no tree: what was dropped would still be told.
		if slices.Contains(j.gone, root.page) {
			return 0, api.ErrSum
		}
		n, e := j.look(root)
		if e != api.OK {
			return 0, e
		}
		if n.Leaf || len(n.L) > 1 {
			return root.page, api.OK
		}
		j.leave(root.page)
		root = place{n.L[0].Page, root.level + 1}
	}
}

// look: the node at a place, be it fresh or not.
func (j *job) look(at place) (leaf.Node, api.Errno) {
	if at.page < 0 {
		return j.fresh[^at.page], api.OK
	}
	return j.node(at)
}

// leave: the root is left out. If it is fresh it is the last one, as nothing stands above it.
func (j *job) leave(page int) {
	if page < 0 {
		j.fresh = j.fresh[:^page]
		return
	}
	j.gone = append(j.gone, page)
}

// finish: all is written, and what was gathered holds; beside an error nothing does.
func (j *job) finish(root int) api.Errno {
	given := j.given()
	pages, e := j.alloc.Take(len(j.fresh))
	if e != api.OK {
		return e
	}
	if e := j.write(pages); e != api.OK {
		j.alloc.Give(pages...)
		return e
	}
	j.alloc.Give(given...)
	j.root = settled(root, pages)
	return api.OK
}

// given: the pages that are gone, as far as the allocator has them as taken: others can't be given.
// It is asked ahead of taking pages, of which such another one might be one.
func (j *job) given() []int {
	var l []int
	for _, page := range j.gone {
		if kind := j.alloc.Kind(page); kind == alloc.Committed || kind == alloc.Shadow {
			l = append(l, page)
		}
	}
	return l
}

// write: the fresh nodes, to these pages.
func (j *job) write(pages []int) api.Errno {
	if n := len(pages); n > 0 && pages[n-1] >= j.device.Pages() {
		// The allocator may have pages that the device hasn't.
		return api.ErrFull
	}
	var frames []frame.Frame
	for i, n := range j.fresh {
		for k, x := range n.L {
			n.L[k].Page = settled(x.Page, pages)
		}
		body, e := leaf.Encode(n)
		if e != api.OK {
			// Keys that stood above didn't fit what is below, and don't rise now.
			return api.ErrSum
		}
		frames = append(frames, frame.Frame{Kind: Kind, Epoch: j.epoch, Page: pages[i], Body: body})
	}
	for _, f := range frames {
		if e := frame.Write(j.device, f); e != api.OK {
			return e
		}
	}
	return api.OK
}

// settled: the page, now that the fresh nodes have these.
func settled(page int, pages []int) int {
	if page < 0 {
		return pages[^page]
	}
	return page
}

// with: what a leaf and one more entry come to.
func with(n leaf.Node, x leaf.Entry) []leaf.Node {
	if m, e := n.With(x); e == api.OK {
		return []leaf.Node{m}
	}
	// Both are right, so there is no room for it.
	first, second, _ := n.Split()
	if leaf.Less(x.Key, second.L[0].Key) {
		first, _ = first.With(x)
	} else {
		second, _ = second.With(x)
	}
	return []leaf.Node{first, second}
}

// without: what a leaf comes to without a key that it has.
func without(n leaf.Node, k leaf.Key) []leaf.Node {
	if len(n.L) == 1 {
		return nil
	}
	n, _ = n.Without(k)
	return []leaf.Node{n}
}

// cut: the nodes above others that have these entries; two, if one would have too many.
func cut(l []leaf.Entry) []leaf.Node {
	half := len(l) / 2
	switch {
	case len(l) == 0:
		return nil
	case len(l) <= leaf.Most:
		return []leaf.Node{{L: l}}
	}
	return []leaf.Node{{L: l[:half]}, {L: l[half:]}}
}
