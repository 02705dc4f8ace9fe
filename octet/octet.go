// Package octet is numbers and bytes, the highest byte first.
package octet

import (
	"math/bits"
	"slices"

	"rubricator/api"
)

const (
	mostSize  = 8   // bytes of a number of 64 bits
	mostVar   = 10  // bytes of the longest number that is as short as can be
	septet    = 7   // bits of a number that a byte of it has then
	more      = 128 // says that a byte isn't the number's last one
	bitsAByte = 8
)

// Writer puts numbers and bytes.
type Writer struct {
	out []byte
}

// NewWriter is one that has put nothing.
func NewWriter() *Writer { return &Writer{} }

// Num puts a number in so many bytes.
func (w *Writer) Num(x uint64, size int) {
	if w == nil || !rightSize(size) {
		return
	}
	for i := range size {
		w.out = append(w.out, byte(x>>(bitsAByte*(size-1-i))))
	}
}

// Raw puts bytes as they are.
func (w *Writer) Raw(b []byte) {
	if w == nil {
		return
	}
	w.out = append(w.out, b...)
}

// Var puts a number in as few bytes as need be.
func (w *Writer) Var(x uint64) {
	if w == nil {
		return
	}
	last := varLen(x) - 1
	for i := range last {
		w.out = append(w.out, more|byte(x>>(septet*(last-i))))
	}
	w.out = append(w.out, byte(x)&^more)
}

// Bytes puts bytes, with how many they are ahead.
func (w *Writer) Bytes(b []byte) {
	w.Var(uint64(len(b)))
	w.Raw(b)
}

// Out is all that was put.
func (w *Writer) Out() []byte {
	if w == nil {
		return nil
	}
	return slices.Clone(w.out)
}

// Reader reads numbers and bytes.
type Reader struct {
	rest []byte
	err  api.Errno
}

// NewReader is one of bytes.
func NewReader(b []byte) *Reader { return &Reader{rest: slices.Clone(b)} }

// Num reads a number of so many bytes.
func (r *Reader) Num(size int) uint64 {
	var x uint64
	for _, c := range r.next(size, rightSize(size)) {
		x = x<<bitsAByte | uint64(c)
	}
	return x
}

// Raw reads so many bytes.
func (r *Reader) Raw(n int) []byte {
	return slices.Clone(r.next(n, n >= 0))
}

// Var reads a number that was put in as few bytes as need be.
func (r *Reader) Var() uint64 {
	if r.Err() != api.OK {
		return 0
	}
	n, e := varEnd(r.rest)
	if e != api.OK {
		r.err = e
		return 0
	}
	x, ok := varOf(r.rest[:n:n])
	if !ok {
		r.err = api.ErrForm
		return 0
	}
	r.take(n)
	return x
}

// Bytes reads bytes, so many at most.
func (r *Reader) Bytes(most int) []byte {
	n := r.Var()
	if r.Err() != api.OK {
		return nil
	}
	if most < 0 || n > uint64(most) {
		r.err = api.ErrBig
		return nil
	}
	return r.Raw(int(n))
}

// Left is how many bytes are left.
func (r *Reader) Left() int {
	if r == nil {
		return 0
	}
	return len(r.rest)
}

// Err is the first error.
func (r *Reader) Err() api.Errno {
	if r == nil {
		return api.ErrArg
	}
	return r.err
}

// End is the first error; ErrLeft, if bytes are left.
func (r *Reader) End() api.Errno {
	if e := r.Err(); e != api.OK {
		return e
	}
	if r.Left() > 0 {
		return api.ErrLeft
	}
	return api.OK
}

// next is the next n bytes, if n may be asked for and so many are left; else there is an error from here on.
func (r *Reader) next(n int, right bool) []byte {
	switch {
	case r.Err() != api.OK:
		return nil
	case !right:
		r.err = api.ErrArg
		return nil
	case n > len(r.rest):
		r.err = api.ErrShort
		return nil
	}
	return r.take(n)
}

// take is the next n bytes, of at least as many that are left.
func (r *Reader) take(n int) []byte {
	b := r.rest[:n:n]
	r.rest = r.rest[n:]
	return b
}

// rightSize tells whether a number may be put in so many bytes.
func rightSize(size int) bool { return size >= 1 && size <= mostSize }

// varLen is how many bytes a number has that is as short as can be.
func varLen(x uint64) int {
	// 0 has a byte too, as 1 has.
	return (bits.Len64(x|1) + septet - 1) / septet
}

// varEnd is how many bytes there are up to the first one that is a number's last.
func varEnd(b []byte) (int, api.Errno) {
	for i, c := range b[:min(len(b), mostVar)] {
		if c < more {
			return i + 1, api.OK
		}
	}
	if len(b) < mostVar {
		return 0, api.ErrShort
	}
	return 0, api.ErrForm
}

// varOf is the number that such bytes are, if they are one, as short as can be.
func varOf(b []byte) (uint64, bool) {
	if b[0] == more {
		// A rest of 0 ahead of others adds a byte and nothing else.
		return 0, false
	}
	var x uint64
	for _, c := range b {
		if bits.LeadingZeros64(x) < septet {
			return 0, false
		}
		x = x<<septet | uint64(c&^more)
	}
	return x, true
}
