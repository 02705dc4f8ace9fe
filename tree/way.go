package tree

import (
	"slices"

	"rubricator/api"
	"rubricator/branch"
	"rubricator/leaf"
	"rubricator/pager"
)

// way is the pages from a root down to a leaf; none of a tree without keys.
type way []step

// step is one of them.
type step struct {
	page api.Page
	node node
	may  span // which keys may be in its tree
	at   int  // the place of the kid by which the way goes on
}

// wayTo is the way to where a key is, or would be.
func wayTo(s pager.Source, root api.Page, key []byte) (way, api.Errno) {
	var w way
	var may span
	for p := root; p != none; {
		if len(w) == api.MaxDeep {
			return nil, api.ErrCorrupt
		}
		n, e := readNode(s, p, may)
		if e != api.OK {
			return nil, e
		}
		x := step{page: p, node: n, may: may}
		p = none
		if !n.isLeaf() {
			x.at = branch.Find(n.kids, key)
			p, may = n.kids[x.at].Child, may.of(n.kids, x.at)
		}
		w = append(w, x)
	}
	return w, api.OK
}

// entries are those of its leaf.
func (w way) entries() []leaf.Entry {
	if len(w) == 0 {
		return nil
	}
	return w[len(w)-1].node.entries
}

// rebuild lets its leaf have other entries; the root of the tree that comes of it.
func (w way) rebuild(t *pager.Txn, l []leaf.Entry) (api.Page, api.Errno) {
	n := node{entries: l}
	for _, x := range slices.Backward(w) {
		if !x.node.isLeaf() {
			var e api.Errno
			if n, e = x.adopt(t, n); e != api.OK {
				return none, e
			}
		}
		// Ahead of the new ones: it may be one of them, if it is this change's own.
		if e := t.Free(x.page); e != api.OK {
			return none, e
		}
	}
	return plant(t, n, len(w))
}

// adopt is what comes of a branch, when a node is to stand in place of the kid by which the way goes on.
func (x step) adopt(t *pager.Txn, n node) (node, api.Errno) {
	kids := x.node.kids
	first, end := x.at, x.at+1 // the kids in whose place it stands
	if n.isThin(t.Size()) {
		beside := x.at - 1
		if x.at == 0 {
			beside = 1
		}
		other, e := x.take(t, beside)
		switch {
		case e != api.OK:
			return node{}, e
		case other.isLeaf() != n.isLeaf():
			return node{}, api.ErrCorrupt
		}
		if x.at == 0 {
			n, end = join(n, other, kids[beside].Key), beside+1
		} else {
			n, first = join(other, n, kids[x.at].Key), beside
		}
	}
	l, e := n.write(t, kids[first].Key)
	if e != api.OK {
		return node{}, e
	}
	return node{kids: slices.Replace(kids, first, end, l...)}, api.OK
}

// take reads one of a branch's kids, and lets its page go.
func (x step) take(t *pager.Txn, i int) (node, api.Errno) {
	p := x.node.kids[i].Child
	n, e := readNode(t, p, x.may.of(x.node.kids, i))
	if e != api.OK {
		return node{}, e
	}
	if e := t.Free(p); e != api.OK {
		return node{}, e
	}
	return n, api.OK
}

// plant lets a node stand above all others of a tree that was so deep; the tree's root.
func plant(t *pager.Txn, n node, deep int) (api.Page, api.Errno) {
	switch {
	case n.many() == 0:
		return none, api.OK
	case !n.isLeaf() && n.many() == 1:
		return n.kids[0].Child, api.OK
	}
	for ; deep <= api.MaxDeep; deep++ {
		kids, e := n.write(t, nil)
		if e != api.OK {
			return none, e
		}
		if len(kids) == 1 {
			return kids[0].Child, api.OK
		}
		n = node{kids: kids}
	}
	return none, api.ErrCorrupt
}
