// Package layout is what pages of entries and pages that lead to pages have alike: which sizes and keys may be, and how cells are laid.
package layout

import (
	"slices"

	"rubricator/api"
	"rubricator/octet"
)

const (
	none = 0 // the byte behind the first one

	kindBytes  = 1 // of a page's first byte, and of the one behind it
	countBytes = 2 // of how many cells there are

	// Head is how many bytes stand ahead of a page's places.
	Head = 2*kindBytes + countBytes
	// Place is how many bytes tell where a cell begins.
	Place = 2
)

// RightSize tells whether a page may have so many bytes.
func RightSize(size int) bool { return size >= api.MinPage && size <= api.MaxPage }

// RightKey tells whether a key may be an entry's.
func RightKey(key []byte) bool { return len(key) >= 1 && len(key) <= api.MaxKey }

// Put is a page of a kind, of entries whose cells all go into it.
func Put[T any](kind byte, l []T, cellOf func(T) []byte, size int) []byte {
	b := make([]byte, size)
	head := octet.NewWriter()
	head.Num(uint64(kind), kindBytes)
	head.Num(none, kindBytes)
	head.Num(uint64(len(l)), countBytes)
	end := size
	for _, x := range l {
		cell := cellOf(x)
		end -= len(cell)
		copy(b[end:], cell)
		head.Num(uint64(end), Place)
	}
	copy(b, head.Out())
	return b
}

// Get are the entries of a page of a kind, if it is laid as one is, and each cell is an entry's.
func Get[T any](kind byte, b []byte, entryOf func(cell []byte) (T, bool)) ([]T, bool) {
	r := octet.NewReader(b)
	if r.Num(kindBytes) != uint64(kind) || r.Num(kindBytes) != none {
		return nil, false
	}
	var l []T
	n, end := int(r.Num(countBytes)), len(b)
	for range n {
		at := int(r.Num(Place))
		if at > end {
			return nil, false
		}
		x, ok := entryOf(b[at:end:end])
		if !ok {
			return nil, false
		}
		l = append(l, x)
		end = at
	}
	// An error here too, if there are fewer places than told, or a cell begins among them.
	free := r.Raw(end - Head - n*Place)
	if r.Err() != api.OK || !areNoughts(free) {
		return nil, false
	}
	return l, true
}

// areNoughts tells whether bytes are 0, each of them.
func areNoughts(b []byte) bool {
	return !slices.ContainsFunc(b, func(c byte) bool { return c != 0 })
}
