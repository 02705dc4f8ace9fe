package tree

import (
	"bytes"
	"slices"
	"sort"

	"rubricator/api"
	"rubricator/branch"
	"rubricator/leaf"
	"rubricator/pager"
)

const (
	quarter = 4 // a page's bytes through so many are the least that a leaf should be filled with
	fewest  = 2 // so many kids a branch has at least
)

// node is what a page has, or is to have.
type node struct {
	entries []leaf.Entry
	kids    []branch.Entry // none: it is a leaf
}

// span is which keys may be in a tree: from one on, and below another one (an empty one: all).
type span struct{ from, below []byte }

// readPage reads a page, if there is anything to read from.
func readPage(s pager.Source, p api.Page) ([]byte, api.Errno) {
	if s == nil {
		return nil, api.ErrArg
	}
	return s.Read(p)
}

// readNode reads a page of a tree that may have some keys alone.
func readNode(s pager.Source, p api.Page, may span) (node, api.Errno) {
	b, e := readPage(s, p)
	if e != api.OK {
		return node{}, e
	}
	entries, notLeaf := leaf.Get(b)
	kids, notBranch := branch.Get(b)
	switch {
	case notLeaf == api.OK && may.has(entries):
		return node{entries: entries}, api.OK
	case notBranch == api.OK:
		return node{kids: kids}, api.OK
	}
	return node{}, api.ErrCorrupt
}

// has tells whether a leaf's keys, which rise, may all be.
func (x span) has(l []leaf.Entry) bool {
	if len(l) == 0 {
		return true
	}
	return bytes.Compare(x.from, l[0].Key) <= 0 && x.isAbove(l[len(l)-1].Key)
}

// isAbove tells whether it ends behind a key.
func (x span) isAbove(key []byte) bool { return len(x.below) == 0 || bytes.Compare(key, x.below) < 0 }

// of is which keys may be in the tree of a branch's kid.
func (x span) of(kids []branch.Entry, i int) span {
	if bytes.Compare(x.from, kids[i].Key) < 0 {
		x.from = kids[i].Key
	}
	if i+1 < len(kids) && x.isAbove(kids[i+1].Key) {
		x.below = kids[i+1].Key
	}
	return x
}

// isLeaf tells whether it has entries, or none, and no kids.
func (n node) isLeaf() bool { return len(n.kids) == 0 }

// fill is how many bytes it takes of a page.
func (n node) fill() int {
	if n.isLeaf() {
		return leaf.Fill(n.entries)
	}
	return branch.Fill(n.kids)
}

// isThin tells whether it has less than a page besides the root should have.
func (n node) isThin(size int) bool {
	if n.isLeaf() {
		return n.fill() < size/quarter
	}
	return len(n.kids) < fewest
}

// many is how many entries, or kids, it has.
func (n node) many() int { return len(n.entries) + len(n.kids) }

// part is some of it: from a place on, up to another one.
func (n node) part(from, to int) node {
	if n.isLeaf() {
		return node{entries: n.entries[from:to:to]}
	}
	return node{kids: n.kids[from:to:to]}
}

// key is its first one, of a node that has one.
func (n node) key() []byte {
	if n.isLeaf() {
		return n.entries[0].Key
	}
	return n.kids[0].Key
}

// pieces tells, one behind the other, what goes into a page each: all of it, or both halves of what is too much.
func (n node) pieces(size int, tell func(piece node) api.Errno) api.Errno {
	whole := n.fill()
	if whole <= size {
		return tell(n)
	}
	// An entry has about a quarter of a page's bytes at most: so either half has more than that, and goes into a page.
	middle := sort.Search(n.many(), func(i int) bool { return 2*n.part(0, i).fill() >= whole })
	if e := tell(n.part(0, middle)); e != api.OK {
		return e
	}
	return tell(n.part(middle, n.many()))
}

// bytes is its page.
func (n node) bytes(size int) ([]byte, api.Errno) {
	if n.isLeaf() {
		return leaf.Put(n.entries, size)
	}
	// Where its first kid begins is told by the page that leads here.
	kids := slices.Clone(n.kids)
	kids[0].Key = nil
	return branch.Put(kids, size)
}

// write lets it stand in new pages: the kids that lead there, the first one with such a key.
func (n node) write(t *pager.Txn, key []byte) ([]branch.Entry, api.Errno) {
	var kids []branch.Entry
	e := n.pieces(t.Size(), func(piece node) api.Errno {
		b, e := piece.bytes(t.Size())
		// Keys that were read rise here, but for those of a branch that stands where they may not be.
		if e != api.OK {
			return api.ErrCorrupt
		}
		p, e := t.New(b)
		if len(kids) > 0 {
			key = piece.key()
		}
		kids = append(kids, branch.Entry{Key: key, Child: p})
		return e
	})
	if e != api.OK {
		return nil, e
	}
	return kids, api.OK
}

// join is what two nodes side by side have, of which the second one's keys are from one on.
func join(a, b node, key []byte) node {
	if !b.isLeaf() {
		b.kids[0].Key = key
	}
	return node{entries: slices.Concat(a.entries, b.entries), kids: slices.Concat(a.kids, b.kids)}
}
