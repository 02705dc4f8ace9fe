package tree

import (
	"bytes"
	"slices"

	"rubricator/api"
	"rubricator/chain"
	"rubricator/leaf"
	"rubricator/node"
	"rubricator/pager"
)

// far is a far value, and the pages in which it stands.
type far struct {
	value []byte
	pages []api.Page
}

// readFar reads a far value of so many bytes, from its first page on.
func readFar(s pager.Source, long int, first api.Page) (far, api.Errno) {
	var x far
	var parts [][]byte
	for p := first; p != none; {
		b, e := node.Bytes(s, p)
		if e != api.OK {
			return far{}, e
		}
		part, next, e := chain.Get(b)
		// No value needs more pages than the greatest one: those that lead back to one of theirs would have no end.
		if e != api.OK || len(parts) == chain.Many(min(long, api.MaxValue), s.Size()) {
			return far{}, api.ErrCorrupt
		}
		parts, x.pages = append(parts, part), append(x.pages, p)
		p = next
	}
	x.value = slices.Concat(parts...)
	if len(x.value) != long || !slices.EqualFunc(parts, chain.Cut(x.value, s.Size()), bytes.Equal) {
		return far{}, api.ErrCorrupt
	}
	return x, api.OK
}

// freeFar lets go of the pages of an entry's value, if it is far.
func freeFar(t *pager.Txn, x leaf.Entry) api.Errno {
	if x.First == none {
		return api.OK
	}
	value, e := readFar(t, x.Long, x.First)
	if e != api.OK {
		return e
	}
	for _, p := range value.pages {
		if e := t.Free(p); e != api.OK {
			return e
		}
	}
	return api.OK
}

// newEntry is a key's entry, whose value is far only if a leaf can't hold it.
func newEntry(t *pager.Txn, key, value []byte) (leaf.Entry, api.Errno) {
	here := leaf.Entry{Key: key, Value: value}
	if leaf.Cell(here) <= leaf.Most(t.Size()) {
		return here, api.OK
	}
	first, e := newFar(t, value)
	if e != api.OK {
		return leaf.Entry{}, e
	}
	return leaf.Entry{Key: key, Long: len(value), First: first}, api.OK
}

// newFar lets a value stand in new pages; the first one.
func newFar(t *pager.Txn, value []byte) (api.Page, api.Errno) {
	var next api.Page
	// A part tells where the next one is: that one must have its page by then.
	for _, part := range slices.Backward(chain.Cut(value, t.Size())) {
		b, e := chain.Put(part, next, t.Size())
		if e != api.OK {
			return none, e
		}
		if next, e = t.New(b); e != api.OK {
			return none, e
		}
	}
	return next, api.OK
}
