// Package node is a page of a tree, as it is read: a leaf's entries or a branch's kids, and which keys may be there.
package node

import (
	"rubricator/api"
	"rubricator/branch"
	"rubricator/leaf"
	"rubricator/pager"
)

// Node is what a page has, or is to have.
type Node struct {
	Entries []leaf.Entry
	Kids    []branch.Entry // none: it is a leaf
}

// IsLeaf tells whether it has entries, or none, and no kids.
func (n Node) IsLeaf() bool { return len(n.Kids) == 0 }

// Many is how many entries, or kids, it has.
func (n Node) Many() int { return len(n.Entries) + len(n.Kids) }

// Bytes reads a page, if there is anything to read from.
func Bytes(s pager.Source, p api.Page) ([]byte, api.Errno) {
	if s == nil {
		return nil, api.ErrArg
	}
	return s.Read(p)
}

// Read reads a page of a tree that may have some keys alone.
func Read(s pager.Source, p api.Page, may Span) (Node, api.Errno) {
	b, e := Bytes(s, p)
	if e != api.OK {
		return Node{}, e
	}
	entries, notLeaf := leaf.Get(b)
	kids, notBranch := branch.Get(b)
	switch {
	case notLeaf == api.OK && may.has(entries):
		return Node{Entries: entries}, api.OK
	case notBranch == api.OK:
		return Node{Kids: kids}, api.OK
	}
	return Node{}, api.ErrCorrupt
}
