package tree

import (
	"slices"

	"rubricator/api"
	"rubricator/branch"
	"rubricator/leaf"
	"rubricator/node"
	"rubricator/pager"
)

// way is the pages from a root down to a leaf; none of a tree without keys.
type way []step

// step is one of them.
type step struct {
	page api.Page
	node node.Node
	may  node.Span // which keys may be in its tree
	at   int       // the place of the kid by which the way goes on
}

// wayTo is the way to where a key is, or would be.
func wayTo(s pager.Source, root api.Page, key []byte) (way, api.Errno) {
	var w way
	var may node.Span
	for p := root; p != none; {
		if len(w) == api.MaxDeep {
			return nil, api.ErrCorrupt
		}
		n, e := node.Read(s, p, may)
		if e != api.OK {
			return nil, e
		}
		x := step{page: p, node: n, may: may}
		p = none
		if !n.IsLeaf() {
			x.at = branch.Find(n.Kids, key)
			p, may = n.Kids[x.at].Child, may.Of(n.Kids, x.at)
		}
		w = append(w, x)
	}
	return w, api.OK
}

// entries are those of its leaf.
func (w way) entries() []leaf.Entry {
	if len(w) == 0 {
		return nil
	}
	return w[len(w)-1].node.Entries
}

// rebuild lets its leaf have other entries; the root of the tree that comes of it.
func (w way) rebuild(t *pager.Txn, l []leaf.Entry) (api.Page, api.Errno) {
	n := node.Node{Entries: l}
	for _, x := range slices.Backward(w) {
		if !x.node.IsLeaf() {
			var e api.Errno
			if n, e = x.adopt(t, n); e != api.OK {
				return none, e
			}
		}
		// Ahead of the new ones: it may be one of them, if it is this change's own.
		if e := t.Free(x.page); e != api.OK {
			return none, e
		}
	}
	return plant(t, n, len(w))
}

// adopt is what comes of a branch, when a node is to stand in place of the kid by which the way goes on.
func (x step) adopt(t *pager.Txn, n node.Node) (node.Node, api.Errno) {
	kids := x.node.Kids
	first, end := x.at, x.at+1 // the kids in whose place it stands
	if isThin(n, t.Size()) {
		beside := x.at - 1
		if x.at == 0 {
			beside = 1
		}
		other, e := x.take(t, beside)
		switch {
		case e != api.OK:
			return node.Node{}, e
		case other.IsLeaf() != n.IsLeaf():
			return node.Node{}, api.ErrCorrupt
		}
		if x.at == 0 {
			n, end = join(n, other, kids[beside].Key), beside+1
		} else {
			n, first = join(other, n, kids[x.at].Key), beside
		}
	}
	l, e := write(t, n, kids[first].Key)
	if e != api.OK {
		return node.Node{}, e
	}
	return node.Node{Kids: slices.Replace(kids, first, end, l...)}, api.OK
}

// take reads one of a branch's kids, and lets its page go.
func (x step) take(t *pager.Txn, i int) (node.Node, api.Errno) {
	p := x.node.Kids[i].Child
	n, e := node.Read(t, p, x.may.Of(x.node.Kids, i))
	if e != api.OK {
		return node.Node{}, e
	}
	if e := t.Free(p); e != api.OK {
		return node.Node{}, e
	}
	return n, api.OK
}

// plant lets a node stand above all others of a tree that was so deep; the tree's root.
func plant(t *pager.Txn, n node.Node, deep int) (api.Page, api.Errno) {
	switch {
	case n.Many() == 0:
		return none, api.OK
	case !n.IsLeaf() && n.Many() == 1:
		return n.Kids[0].Child, api.OK
	}
	for ; deep <= api.MaxDeep; deep++ {
		kids, e := write(t, n, nil)
		if e != api.OK {
			return none, e
		}
		if len(kids) == 1 {
			return kids[0].Child, api.OK
		}
		n = node.Node{Kids: kids}
	}
	return none, api.ErrCorrupt
}
