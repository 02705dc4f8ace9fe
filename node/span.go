package node

import (
	"bytes"

	"rubricator/branch"
	"rubricator/leaf"
)

// Span is which keys may be in a tree: from one on, and below another one (an empty one: all).
type Span struct{ from, below []byte }

// Of is which keys may be in the tree of a branch's kid.
func (x Span) Of(kids []branch.Entry, i int) Span {
	if bytes.Compare(x.from, kids[i].Key) < 0 {
		x.from = kids[i].Key
	}
	if i+1 < len(kids) && x.isAbove(kids[i+1].Key) {
		x.below = kids[i+1].Key
	}
	return x
}

// IsEmpty tells whether no key may be there.
func (x Span) IsEmpty() bool { return !x.isAbove(x.from) }

// has tells whether a leaf's keys, which rise, may all be.
func (x Span) has(l []leaf.Entry) bool {
	if len(l) == 0 {
		return true
	}
	return bytes.Compare(x.from, l[0].Key) <= 0 && x.isAbove(l[len(l)-1].Key)
}

// isAbove tells whether it ends behind a key.
func (x Span) isAbove(key []byte) bool { return len(x.below) == 0 || bytes.Compare(key, x.below) < 0 }
