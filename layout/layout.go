// Package layout is what kinds of pages have alike: which sizes and keys may be, how many pages things need, a page's first bytes, and how cells are laid.
package layout

import (
	"slices"

	"rubricator/api"
	"rubricator/octet"
)

const (
	none = 0 // the byte behind the first one

	kindBytes  = 1 // of a page's first byte, and of the one behind it
	countBytes = 2 // of how many things there are
	nextBytes  = 4 // of the next page

	// Head is how many bytes a page's first ones are: its kind, and how many things it has.
	Head = 2*kindBytes + countBytes
	// Linked is how many bytes the first ones of a page are that tells its next one, too.
	Linked = Head + nextBytes
	// Place is how many bytes tell where a cell begins.
	Place = 2
)

// RightSize tells whether a page may have so many bytes.
func RightSize(size int) bool { return size >= api.MinPage && size <= api.MaxPage }

// RightKey tells whether a key may be an entry's.
func RightKey(key []byte) bool { return len(key) >= 1 && len(key) <= api.MaxKey }

// AreNoughts tells whether bytes are 0, each of them.
func AreNoughts(b []byte) bool {
	return !slices.ContainsFunc(b, func(c byte) bool { return c != 0 })
}

// Many is how many pages so many things need, of which each bears so many, one at least.
func Many(n, most int) int {
	if n < 1 {
		return 0
	}
	// The last page is counted apart: rounded up by a sum the greatest numbers would wrap round.
	return (n-1)/most + 1
}

// WriteHead puts the first bytes of a page of a kind, of so many things; what stands behind them is put behind.
func WriteHead(kind byte, n int) *octet.Writer {
	w := octet.NewWriter()
	w.Num(uint64(kind), kindBytes)
	w.Num(none, kindBytes)
	w.Num(uint64(n), countBytes)
	return w
}

// ReadHead reads how many things a page has, if its first bytes are those of a kind; what stands behind them is left to be read.
func ReadHead(kind byte, b []byte) (*octet.Reader, int, bool) {
	r := octet.NewReader(b)
	first, second, n := r.Num(kindBytes), r.Num(kindBytes), r.Num(countBytes)
	if r.Err() != api.OK || first != uint64(kind) || second != none {
		return nil, 0, false
	}
	return r, int(n), true
}

// WriteLinked puts the first bytes of a page of a kind, of so many things, with a next page (0: none).
func WriteLinked(kind byte, n int, next api.Page) *octet.Writer {
	w := WriteHead(kind, n)
	w.Num(uint64(next), nextBytes)
	return w
}

// ReadLinked reads how many things a page has, and the next page, if its first bytes are those of a kind.
func ReadLinked(kind byte, b []byte) (*octet.Reader, int, api.Page, bool) {
	r, n, ok := ReadHead(kind, b)
	if !ok || len(b) < Linked {
		return nil, 0, 0, false
	}
	next := r.Num(nextBytes)
	return r, n, api.Page(next), true
}

// Put is a page of a kind, of entries whose cells all go into it.
func Put[T any](kind byte, l []T, cellOf func(T) []byte, size int) []byte {
	b := make([]byte, size)
	head := WriteHead(kind, len(l))
	end := size
	for _, x := range l {
		cell := cellOf(x)
		end -= len(cell)
		copy(b[end:], cell)
		head.Num(uint64(end), Place)
	}
	copy(b, head.Out())
	return b
}

// Get are the entries of a page of a kind, if it is laid as one is, and each cell is an entry's.
func Get[T any](kind byte, b []byte, entryOf func(cell []byte) (T, bool)) ([]T, bool) {
	r, n, ok := ReadHead(kind, b)
	if !ok {
		return nil, false
	}
	var l []T
	end := len(b)
	for range n {
		at := int(r.Num(Place))
		if at > end {
			return nil, false
		}
		x, ok := entryOf(b[at:end:end])
		if !ok {
			return nil, false
		}
		l = append(l, x)
		end = at
	}
	// An error here too, if there are fewer places than told, or a cell begins among them.
	free := r.Raw(end - Head - n*Place)
	if r.Err() != api.OK || !AreNoughts(free) {
		return nil, false
	}
	return l, true
}
