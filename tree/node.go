package tree

import (
	"slices"
	"sort"

	"rubricator/api"
	"rubricator/branch"
	"rubricator/leaf"
	"rubricator/node"
	"rubricator/pager"
)

const (
	quarter = 4 // a page's bytes through so many are the least that a leaf should be filled with
	fewest  = 2 // so many kids a branch has at least
)

// fill is how many bytes a node takes of a page.
func fill(n node.Node) int {
	if n.IsLeaf() {
		return leaf.Fill(n.Entries)
	}
	return branch.Fill(n.Kids)
}

// isThin tells whether a node has less than a page besides the root should have.
func isThin(n node.Node, size int) bool {
	if n.IsLeaf() {
		return fill(n) < size/quarter
	}
	return len(n.Kids) < fewest
}

// part is some of a node: from a place on, up to another one.
func part(n node.Node, from, to int) node.Node {
	if n.IsLeaf() {
		return node.Node{Entries: n.Entries[from:to:to]}
	}
	return node.Node{Kids: n.Kids[from:to:to]}
}

// firstKey is that of a node that has one.
func firstKey(n node.Node) []byte {
	if n.IsLeaf() {
		return n.Entries[0].Key
	}
	return n.Kids[0].Key
}

// pieces tells, one behind the other, what goes into a page each: all of a node, or both halves of what is too much.
func pieces(n node.Node, size int, tell func(piece node.Node) api.Errno) api.Errno {
	whole := fill(n)
	if whole <= size {
		return tell(n)
	}
	// An entry has about a quarter of a page's bytes at most: so either half has more than that, and goes into a page.
	middle := sort.Search(n.Many(), func(i int) bool { return 2*fill(part(n, 0, i)) >= whole })
	if e := tell(part(n, 0, middle)); e != api.OK {
		return e
	}
	return tell(part(n, middle, n.Many()))
}

// pageOf is a node's page.
func pageOf(n node.Node, size int) ([]byte, api.Errno) {
	if n.IsLeaf() {
		return leaf.Put(n.Entries, size)
	}
	// Where its first kid begins is told by the page that leads here.
	kids := slices.Clone(n.Kids)
	kids[0].Key = nil
	return branch.Put(kids, size)
}

// write lets a node stand in new pages: the kids that lead there, the first one with such a key.
func write(t *pager.Txn, n node.Node, key []byte) ([]branch.Entry, api.Errno) {
	var kids []branch.Entry
	e := pieces(n, t.Size(), func(piece node.Node) api.Errno {
		b, e := pageOf(piece, t.Size())
		// Keys that were read rise here, but for those of a branch that stands where they may not be.
		if e != api.OK {
			return api.ErrCorrupt
		}
		p, e := t.New(b)
		if len(kids) > 0 {
			key = firstKey(piece)
		}
		kids = append(kids, branch.Entry{Key: key, Child: p})
		return e
	})
	if e != api.OK {
		return nil, e
	}
	return kids, api.OK
}

// join is what two nodes side by side have, of which the second one's keys are from one on.
func join(a, b node.Node, key []byte) node.Node {
	if !b.IsLeaf() {
		b.Kids[0].Key = key
	}
	return node.Node{Entries: slices.Concat(a.Entries, b.Entries), Kids: slices.Concat(a.Kids, b.Kids)}
}
