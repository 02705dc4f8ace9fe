package octet_test

import (
	"bytes"
	"math"
	"math/big"
	"math/rand/v2"
	"slices"
	"testing"

	"rubricator/api"
	"rubricator/octet"
)

// shortest is a number as short as can be, made word by word as the chapter says it.
func shortest(x *big.Int) []byte {
	base, left := big.NewInt(128), new(big.Int).Set(x)
	var rests []byte
	for {
		rest := new(big.Int)
		left.DivMod(left, base, rest)
		rests = append(rests, byte(rest.Uint64()))
		if left.Sign() == 0 {
			break
		}
	}
	slices.Reverse(rests)
	for i := range len(rests) - 1 {
		rests[i] += 128
	}
	return rests
}

// readVar is what a Var of b is, how many bytes it takes, and its error, as the chapter says it.
func readVar(b []byte) (uint64, int, api.Errno) {
	end := slices.IndexFunc(b, func(c byte) bool { return c < 128 })
	if len(b) >= 10 && (end < 0 || end >= 10) {
		return 0, 0, api.ErrForm
	}
	if end < 0 {
		return 0, 0, api.ErrShort
	}
	x := new(big.Int)
	for _, c := range b[:end+1] {
		x.Add(x.Lsh(x, 7), big.NewInt(int64(c&127)))
	}
	if x.BitLen() > 64 || !bytes.Equal(shortest(x), b[:end+1]) {
		return 0, 0, api.ErrForm
	}
	return x.Uint64(), end + 1, api.OK
}

// edges are numbers about each length of each form.
func edges() []uint64 {
	l := []uint64{0, 1, 300, math.MaxUint64}
	for bit := range 64 {
		x := uint64(1) << bit
		l = append(l, x-1, x, x+1)
	}
	return l
}

func put(f func(w *octet.Writer)) []byte {
	w := octet.NewWriter()
	f(w)
	return w.Out()
}

func wantBytes(t *testing.T, what string, got, want []byte) {
	t.Helper()
	if !bytes.Equal(got, want) {
		t.Errorf("%s: got %v, want %v", what, got, want)
	}
}

func wantState(t *testing.T, what string, r *octet.Reader, left int, e api.Errno) {
	t.Helper()
	if r.Left() != left || r.Err() != e {
		t.Errorf("%s: left %d, error %d; want %d, %d", what, r.Left(), r.Err(), left, e)
	}
}

func TestP11Num(t *testing.T) {
	const x = 0x0102030405060708
	all := []byte{1, 2, 3, 4, 5, 6, 7, 8}
	for size := 1; size <= 8; size++ {
		wantBytes(t, "Num", put(func(w *octet.Writer) { w.Num(x, size) }), all[8-size:])
		wantBytes(t, "Num of 0", put(func(w *octet.Writer) { w.Num(0, size) }), make([]byte, size))
		wantBytes(t, "Num of the greatest", put(func(w *octet.Writer) { w.Num(math.MaxUint64, size) }), bytes.Repeat([]byte{255}, size))
	}
	wantBytes(t, "Num of 258 in 3", put(func(w *octet.Writer) { w.Num(258, 3) }), []byte{0, 1, 2})
	wantBytes(t, "Num of 256 in 1", put(func(w *octet.Writer) { w.Num(256, 1) }), []byte{0})
	for _, size := range []int{0, 9, 10, 16, 64, -1, -8, math.MinInt, math.MaxInt} {
		wantBytes(t, "Num of a wrong size", put(func(w *octet.Writer) { w.Num(x, size) }), nil)
	}
}

func TestP11Raw(t *testing.T) {
	wantBytes(t, "Raw of nil", put(func(w *octet.Writer) { w.Raw(nil) }), nil)
	wantBytes(t, "Raw of nothing", put(func(w *octet.Writer) { w.Raw([]byte{}) }), nil)
	w, b := octet.NewWriter(), []byte{0, 128, 255}
	w.Raw(b)
	b[0] = 7
	wantBytes(t, "Raw", w.Out(), []byte{0, 128, 255})
	w.Num(9, 1)
	wantBytes(t, "what was handed in", b, []byte{7, 128, 255})
}

func TestP11Var(t *testing.T) {
	for _, x := range []struct {
		x    uint64
		want []byte
	}{
		{0, []byte{0}},
		{127, []byte{127}},
		{128, []byte{129, 0}},
		{300, []byte{130, 44}},
		{16383, []byte{255, 127}},
		{16384, []byte{129, 128, 0}},
		{1 << 63, []byte{129, 128, 128, 128, 128, 128, 128, 128, 128, 0}},
		{math.MaxUint64, []byte{129, 255, 255, 255, 255, 255, 255, 255, 255, 127}},
	} {
		wantBytes(t, "Var", put(func(w *octet.Writer) { w.Var(x.x) }), x.want)
	}
	for _, x := range edges() {
		wantBytes(t, "Var of an edge", put(func(w *octet.Writer) { w.Var(x) }), shortest(new(big.Int).SetUint64(x)))
	}
}

func TestP11Bytes(t *testing.T) {
	wantBytes(t, "Bytes of nil", put(func(w *octet.Writer) { w.Bytes(nil) }), []byte{0})
	wantBytes(t, "Bytes", put(func(w *octet.Writer) { w.Bytes([]byte("ab")) }), []byte{2, 'a', 'b'})
	for _, n := range []int{127, 128, 300, 16384} {
		b := bytes.Repeat([]byte{200}, n)
		wantBytes(t, "long Bytes", put(func(w *octet.Writer) { w.Bytes(b) }), append(shortest(big.NewInt(int64(n))), b...))
	}
	w, b := octet.NewWriter(), []byte{1, 2}
	w.Bytes(b)
	b[1] = 9
	wantBytes(t, "Bytes that change behind", w.Out(), []byte{2, 1, 2})
}

func TestP11Out(t *testing.T) {
	w := octet.NewWriter()
	wantBytes(t, "Out of nothing", w.Out(), nil)
	w.Num(1, 2)
	w.Raw([]byte{2})
	w.Var(300)
	w.Num(5, 9)
	w.Bytes([]byte{3})
	want := []byte{0, 1, 2, 130, 44, 1, 3}
	first := w.Out()
	wantBytes(t, "Out", first, want)
	_ = append(first, 88)
	clear(first)
	wantBytes(t, "Out again", w.Out(), want)
	second := w.Out()
	w.Num(4, 1)
	wantBytes(t, "an Out that was told ahead", second, want)
	wantBytes(t, "Out of more", w.Out(), append(want, 4))
}

func TestP11NilWriter(t *testing.T) {
	var w *octet.Writer
	w.Num(1, 1)
	w.Num(1, 9)
	w.Raw([]byte{1})
	w.Var(1)
	w.Bytes([]byte{1})
	wantBytes(t, "Out of nil", w.Out(), nil)
}

func TestP12ReaderOfACopy(t *testing.T) {
	b := []byte{1, 2, 3}
	r := octet.NewReader(b)
	clear(b)
	wantBytes(t, "Raw", r.Raw(3), []byte{1, 2, 3})
	wantState(t, "all is read", r, 0, api.OK)
	wantState(t, "Reader of nil", octet.NewReader(nil), 0, api.OK)
}

func TestP12Num(t *testing.T) {
	all := []byte{129, 2, 3, 4, 5, 6, 7, 8}
	for size := 1; size <= 8; size++ {
		want := uint64(0x8102030405060708) >> (64 - 8*size)
		r := octet.NewReader(append(slices.Clone(all[:size]), 77))
		if x := r.Num(size); x != want {
			t.Errorf("Num of %d bytes: got %x, want %x", size, x, want)
		}
		wantState(t, "Num", r, 1, api.OK)
		if x := r.Num(1); x != 77 {
			t.Errorf("the number behind: %d", x)
		}
		r = octet.NewReader(all[:size-1])
		if x := r.Num(size); x != 0 {
			t.Errorf("Num of too few bytes: %d", x)
		}
		wantState(t, "Num of too few bytes", r, size-1, api.ErrShort)
	}
	for _, size := range []int{0, 9, -1, math.MinInt, math.MaxInt} {
		for _, b := range [][]byte{nil, make([]byte, 20)} {
			r := octet.NewReader(b)
			if x := r.Num(size); x != 0 {
				t.Errorf("Num of size %d: %d", size, x)
			}
			wantState(t, "Num of a wrong size", r, len(b), api.ErrArg)
		}
	}
}

func TestP12Raw(t *testing.T) {
	r := octet.NewReader([]byte{1, 2, 3})
	wantBytes(t, "Raw of 0", r.Raw(0), nil)
	wantBytes(t, "Raw of 2", r.Raw(2), []byte{1, 2})
	wantState(t, "Raw", r, 1, api.OK)
	wantBytes(t, "Raw of too many", r.Raw(2), nil)
	wantState(t, "Raw of too many", r, 1, api.ErrShort)
	for _, n := range []int{-1, math.MinInt} {
		r = octet.NewReader([]byte{1})
		wantBytes(t, "Raw below 0", r.Raw(n), nil)
		wantState(t, "Raw below 0", r, 1, api.ErrArg)
	}
	r = octet.NewReader([]byte{1})
	wantBytes(t, "Raw of the most", r.Raw(math.MaxInt), nil)
	wantState(t, "Raw of the most", r, 1, api.ErrShort)
	r = octet.NewReader(nil)
	wantBytes(t, "Raw of 0 of nothing", r.Raw(0), nil)
	wantState(t, "Raw of 0 of nothing", r, 0, api.OK)
}

func TestP12RawIsNewMemory(t *testing.T) {
	src := []byte{1, 2, 3, 4, 5, 2, 6, 7, 8}
	r := octet.NewReader(src)
	a := r.Raw(2)
	empty := r.Raw(0)
	_ = append(a, 99, 99, 99)
	_ = append(empty, 98, 98, 98)
	clear(a)
	b := r.Raw(3)
	wantBytes(t, "Raw behind one that was written to", b, []byte{3, 4, 5})
	c := r.Bytes(2)
	_ = append(c, 99)
	_ = append(b, 99, 99)
	wantBytes(t, "Bytes beside one that was written to", c, []byte{6, 7})
	wantBytes(t, "Raw at the end", r.Raw(1), []byte{8})
	wantBytes(t, "what was handed in", src, []byte{1, 2, 3, 4, 5, 2, 6, 7, 8})
}

// failing are readers of which each has 4 bytes left, and an error.
func failing() map[api.Errno]*octet.Reader {
	l := map[api.Errno]*octet.Reader{}
	keep := func(b []byte, f func(r *octet.Reader)) {
		r := octet.NewReader(b)
		f(r)
		l[r.Err()] = r
	}
	keep([]byte{1, 2, 3, 4}, func(r *octet.Reader) { r.Num(0) })
	keep([]byte{1, 2, 3, 4}, func(r *octet.Reader) { r.Raw(5) })
	keep([]byte{128, 2, 3, 4}, func(r *octet.Reader) { r.Var() })
	keep([]byte{3, 1, 2, 3, 4}, func(r *octet.Reader) { r.Bytes(2) })
	return l
}

func TestP12TheFirstErrorStays(t *testing.T) {
	for _, e := range []api.Errno{api.ErrArg, api.ErrShort, api.ErrForm, api.ErrBig} {
		r := failing()[e]
		if r == nil {
			t.Fatalf("no reader failed with %d", e)
		}
		wantState(t, "an error", r, 4, e)
		for range 2 {
			if x := r.Num(1); x != 0 {
				t.Errorf("Num behind error %d: %d", e, x)
			}
			r.Num(9)
			wantBytes(t, "Raw behind an error", r.Raw(1), nil)
			r.Raw(-1)
			r.Raw(100)
			if x := r.Var(); x != 0 {
				t.Errorf("Var behind error %d: %d", e, x)
			}
			wantBytes(t, "Bytes behind an error", r.Bytes(4), nil)
			r.Bytes(-1)
			wantState(t, "behind an error", r, 4, e)
			if r.End() != e {
				t.Errorf("End behind error %d: %d", e, r.End())
			}
		}
	}
}

// checkVar holds one Var of b against the chapter's words.
func checkVar(t *testing.T, b []byte) {
	t.Helper()
	want, n, e := readVar(b)
	r := octet.NewReader(b)
	if x := r.Var(); x != want {
		t.Errorf("Var of %v: got %d, want %d", b, x, want)
	}
	wantState(t, "Var", r, len(b)-n, e)
}

func TestP13VarOfAllShortRows(t *testing.T) {
	some := []byte{0, 1, 2, 127, 128, 129, 130, 255}
	rows := [][]byte{nil}
	for range 4 {
		var longer [][]byte
		for _, b := range rows {
			checkVar(t, b)
			for _, c := range some {
				longer = append(longer, append(slices.Clone(b), c))
			}
		}
		rows = longer
	}
}

func TestP13VarOfLongRows(t *testing.T) {
	for n := 7; n <= 13; n++ {
		for _, first := range []byte{128, 129, 130, 131, 191, 192, 255} {
			for _, fill := range []byte{128, 129, 255} {
				for last := range n {
					for _, c := range []byte{0, 1, 127} {
						b := bytes.Repeat([]byte{fill}, n)
						b[0] = first
						checkVar(t, b)
						b[last] = c
						checkVar(t, b)
					}
				}
			}
		}
	}
}

func TestP13VarErrors(t *testing.T) {
	nine := bytes.Repeat([]byte{255}, 9)
	for _, x := range []struct {
		what string
		b    []byte
		want api.Errno
	}{
		{"nothing", nil, api.ErrShort},
		{"9 without an end", nine, api.ErrShort},
		{"a 128 without an end", []byte{128}, api.ErrShort},
		{"10 without an end", append(slices.Clone(nine), 255), api.ErrForm},
		{"10 without an end, and one that is", append(slices.Clone(nine), 255, 1), api.ErrForm},
		{"a 0 ahead", []byte{128, 0}, api.ErrForm},
		{"a 0 ahead of a 1", []byte{128, 1}, api.ErrForm},
		{"2^64", []byte{130, 128, 128, 128, 128, 128, 128, 128, 128, 0}, api.ErrForm},
		{"more than 2^64", append(slices.Clone(nine), 127), api.ErrForm},
		{"2^64 less 1", []byte{129, 255, 255, 255, 255, 255, 255, 255, 255, 127}, api.OK},
		{"0", []byte{0}, api.OK},
	} {
		r := octet.NewReader(x.b)
		if got := r.Var(); x.want != api.OK && got != 0 {
			t.Errorf("%s: %d", x.what, got)
		}
		if r.Err() != x.want {
			t.Errorf("%s: error %d, want %d", x.what, r.Err(), x.want)
		}
	}
}

func TestP13Bytes(t *testing.T) {
	huge := put(func(w *octet.Writer) { w.Var(math.MaxUint64) })
	above := put(func(w *octet.Writer) { w.Var(math.MaxInt + 1) })
	greatest := put(func(w *octet.Writer) { w.Var(math.MaxInt) })
	for _, x := range []struct {
		what string
		b    []byte
		most int
		want []byte
		left int
		e    api.Errno
	}{
		{"as many as may be", []byte{2, 7, 8, 9}, 2, []byte{7, 8}, 1, api.OK},
		{"fewer", []byte{2, 7, 8}, math.MaxInt, []byte{7, 8}, 0, api.OK},
		{"none", []byte{0}, 0, nil, 0, api.OK},
		{"one too many", []byte{3, 7, 8, 9}, 2, nil, 3, api.ErrBig},
		{"too many, and too few left", []byte{3, 7}, 2, nil, 1, api.ErrBig},
		{"too few left", []byte{3, 7, 8}, 3, nil, 2, api.ErrShort},
		{"none, of fewer than 0", []byte{0, 1}, -1, nil, 1, api.ErrBig},
		{"some, of fewer than 0", []byte{1, 1}, math.MinInt, nil, 1, api.ErrBig},
		{"no number, of fewer than 0", []byte{128, 1}, -1, nil, 2, api.ErrForm},
		{"nothing, of fewer than 0", nil, -1, nil, 0, api.ErrShort},
		{"no end", []byte{255}, 9, nil, 1, api.ErrShort},
		{"2^64 less 1", huge, math.MaxInt, nil, 0, api.ErrBig},
		{"2^63", above, math.MaxInt, nil, 0, api.ErrBig},
		{"2^63 less 1", greatest, math.MaxInt, nil, 0, api.ErrShort},
	} {
		r := octet.NewReader(x.b)
		wantBytes(t, x.what, r.Bytes(x.most), x.want)
		wantState(t, x.what, r, x.left, x.e)
	}
}

func TestP13LeftErrEnd(t *testing.T) {
	r := octet.NewReader([]byte{1, 2})
	wantState(t, "at first", r, 2, api.OK)
	if r.Num(1) != 1 || r.End() != api.ErrLeft || r.End() != api.ErrLeft {
		t.Error("End, of one left:", r.End())
	}
	wantState(t, "End takes nothing, and is no error of its own", r, 1, api.OK)
	if r.Num(1) != 2 || r.End() != api.OK {
		t.Error("End, of none left:", r.End())
	}
	if r.Num(1) != 0 || r.End() != api.ErrShort {
		t.Error("End, of an error:", r.End())
	}
	r = octet.NewReader([]byte{1, 2})
	r.Raw(-1)
	if r.End() != api.ErrArg {
		t.Error("End, of an error and bytes left:", r.End())
	}
}

func TestP13NilReader(t *testing.T) {
	var r *octet.Reader
	if r.Num(1) != 0 || r.Num(9) != 0 || r.Var() != 0 {
		t.Error("a nil Reader has numbers")
	}
	wantBytes(t, "Raw of nil", r.Raw(0), nil)
	wantBytes(t, "Raw of nil", r.Raw(1), nil)
	wantBytes(t, "Bytes of nil", r.Bytes(1), nil)
	wantState(t, "nil", r, 0, api.ErrArg)
	if r.End() != api.ErrArg {
		t.Error("End of nil:", r.End())
	}
}

// step puts something, and tells how to read it.
func step(w *octet.Writer, chance *rand.Rand) func(r *octet.Reader) bool {
	x := chance.Uint64() >> chance.IntN(64)
	b := make([]byte, chance.IntN(200))
	for i := range b {
		b[i] = byte(chance.Uint32())
	}
	switch chance.IntN(4) {
	case 0:
		size := 1 + chance.IntN(8)
		w.Num(x, size)
		return func(r *octet.Reader) bool { return r.Num(size) == x<<(64-8*size)>>(64-8*size) }
	case 1:
		w.Raw(b)
		return func(r *octet.Reader) bool { return bytes.Equal(r.Raw(len(b)), b) }
	case 2:
		w.Var(x)
		return func(r *octet.Reader) bool { return r.Var() == x }
	}
	w.Bytes(b)
	return func(r *octet.Reader) bool { return bytes.Equal(r.Bytes(len(b)), b) }
}

func TestP14WhatIsPutIsRead(t *testing.T) {
	chance := rand.New(rand.NewPCG(1, 4))
	for range 300 {
		w := octet.NewWriter()
		var reads []func(r *octet.Reader) bool
		for range chance.IntN(40) {
			reads = append(reads, step(w, chance))
		}
		r := octet.NewReader(w.Out())
		for i, read := range reads {
			if !read(r) {
				t.Fatalf("thing %d isn't read as it was put: error %d", i, r.Err())
			}
		}
		if r.End() != api.OK {
			t.Fatalf("End: %d", r.End())
		}
	}
	for _, x := range edges() {
		b := put(func(w *octet.Writer) { w.Var(x); w.Num(x, 8) })
		r := octet.NewReader(b)
		if r.Var() != x || r.Num(8) != x || r.End() != api.OK {
			t.Errorf("%d isn't read as it was put", x)
		}
	}
}
