package chain_test

import (
	"bytes"
	"math"
	"math/rand/v2"
	"slices"
	"testing"

	"rubricator/api"
	"rubricator/branch"
	"rubricator/chain"
	"rubricator/leaf"
)

// The words of the chapter, told again, byte by byte.

// layAsTold lays a part, of which n is told as how many bytes it has.
func layAsTold(n int, next api.Page, part []byte, size int) []byte {
	b := []byte{3, 0, byte(n >> 8), byte(n), byte(next >> 24), byte(next >> 16), byte(next >> 8), byte(next)}
	b = append(b, part...)
	return append(b, make([]byte, max(0, size-len(b)))...)[:size]
}

func pageAsTold(part []byte, next api.Page, size int) []byte {
	return layAsTold(len(part), next, part, size)
}

func isSize(size int) bool { return 512 <= size && size <= 4096 }

// getAsTold takes what might be told; that its page is b, laid again, tells that b is one.
func getAsTold(b []byte) ([]byte, api.Page, api.Errno) {
	if !isSize(len(b)) {
		return nil, 0, api.ErrForm
	}
	n := int(b[2])*256 + int(b[3])
	next := api.Page(b[4])<<24 + api.Page(b[5])<<16 + api.Page(b[6])<<8 + api.Page(b[7])
	if n < 1 || n+8 > len(b) || !bytes.Equal(pageAsTold(b[8:8+n], next, len(b)), b) {
		return nil, 0, api.ErrForm
	}
	return b[8 : 8+n], next, api.OK
}

// cutAsTold takes byte by byte, and a new part as soon as one bears no more.
func cutAsTold(b []byte, size int) [][]byte {
	if !isSize(size) {
		return nil
	}
	var l [][]byte
	for i, c := range b {
		if i%(size-8) == 0 {
			l = append(l, nil)
		}
		l[len(l)-1] = append(l[len(l)-1], c)
	}
	return l
}

// What the tests are made of.

// numbered are n bytes, none of them 0.
func numbered(n int) []byte {
	b := make([]byte, n)
	for i := range b {
		b[i] = byte(1 + i%251)
	}
	return b
}

func someBytes(chance *rand.Rand, n int) []byte {
	b := make([]byte, n)
	for i := range b {
		b[i] = byte(chance.Uint32())
	}
	return b
}

// wrong are sizes that no page has.
func wrong() []int {
	return []int{511, 4097, 0, 1, 7, 8, 9, -1, -8, -512, 8192, 65536, 512 + 1<<32, math.MaxInt, math.MinInt}
}

// near are numbers of bytes about what a part, and two and three, bear.
func near(size int) []int {
	most := size - 8
	l := []int{0, 1, 2}
	for _, n := range []int{most, 2 * most, 3 * most, size} {
		l = append(l, n-1, n, n+1)
	}
	return l
}

func wantMany(t *testing.T, n, size, want int) {
	t.Helper()
	if got := chain.Many(n, size); got != want {
		t.Errorf("Many of %d, %d: got %d, want %d", n, size, got, want)
	}
}

func sameParts(a, b [][]byte) bool { return slices.EqualFunc(a, b, bytes.Equal) }

// wantCut holds Cut against the chapter's words, and against Many.
func wantCut(t *testing.T, b []byte, size int) {
	t.Helper()
	want := cutAsTold(b, size)
	if got := chain.Cut(b, size); !sameParts(got, want) {
		t.Errorf("Cut of %d bytes, %d: got %d parts, want %d: %v", len(b), size, len(got), len(want), got)
	}
	wantMany(t, len(b), size, len(want))
}

func wantGet(t *testing.T, what string, b, part []byte, next api.Page, e api.Errno) {
	t.Helper()
	gotPart, gotNext, got := chain.Get(b)
	if got != e || gotNext != next || !bytes.Equal(gotPart, part) || e != api.OK && gotPart != nil {
		t.Errorf("%s, of %d bytes: Get tells error %d, want %d, next %d, want %d, %v, want %v", what, len(b), got, e, gotNext, next, gotPart, part)
	}
}

func wantNoPage(t *testing.T, what string, b []byte) {
	t.Helper()
	wantGet(t, what, b, nil, 0, api.ErrForm)
	if _, _, e := getAsTold(b); e != api.ErrForm {
		t.Errorf("%s: the test itself is wrong", what)
	}
}

// wantThere puts a part and gets it again.
func wantThere(t *testing.T, what string, part []byte, next api.Page, size int) {
	t.Helper()
	want := pageAsTold(part, next, size)
	if b, e := chain.Put(part, next, size); e != api.OK || !bytes.Equal(b, want) {
		t.Errorf("%s, of size %d: Put tells error %d, %v, want %v", what, size, e, b, want)
	}
	wantGet(t, what, want, part, next, api.OK)
}

func wantRefused(t *testing.T, what string, part []byte, next api.Page, size int) {
	t.Helper()
	if b, e := chain.Put(part, next, size); e != api.ErrArg || b != nil {
		t.Errorf("%s, of size %d: Put tells error %d, and %d bytes", what, size, e, len(b))
	}
}

// P6.1

func TestP61Example(t *testing.T) {
	wantMany(t, 505, 512, 2)
}

func TestP61Many(t *testing.T) {
	for _, x := range []struct{ n, size, want int }{
		{-1, 512, 0}, {0, 512, 0}, {1, 512, 1}, {503, 512, 1}, {504, 512, 1}, {505, 512, 2}, {512, 512, 2},
		{1007, 512, 2}, {1008, 512, 2}, {1009, 512, 3}, {32768, 512, 66}, {505, 513, 1}, {506, 513, 2},
		{-1, 4096, 0}, {0, 4096, 0}, {1, 4096, 1}, {4087, 4096, 1}, {4088, 4096, 1}, {4089, 4096, 2}, {4096, 4096, 2},
		{8176, 4096, 2}, {8177, 4096, 3}, {32768, 4096, 9}, {1 << 31, 512, (1<<31 + 503) / 504},
		{math.MaxInt, 512, (math.MaxInt + 503) / 504}, {math.MaxInt, 4096, (math.MaxInt + 4087) / 4088},
		{math.MaxInt - 1, 512, (math.MaxInt + 502) / 504}, {math.MinInt, 512, 0}, {math.MinInt, 4096, 0}, {-505, 512, 0}, {-5000, 4096, 0},
	} {
		wantMany(t, x.n, x.size, x.want)
	}
}

func TestP61ManyOfEachSize(t *testing.T) {
	for size := 512; size <= 4096; size++ {
		for k := range 5 {
			wantMany(t, k*(size-8), size, k)
			wantMany(t, k*(size-8)+1, size, k+1)
			wantMany(t, k*(size-8)+size-9, size, k+1)
		}
		for _, n := range []int{-1, 1 - size, -size, -5 * size, math.MinInt} {
			wantMany(t, n, size, 0)
		}
	}
	for _, size := range wrong() {
		for _, n := range []int{-1, 0, 1, 504, 505, 5000, math.MaxInt, math.MinInt} {
			wantMany(t, n, size, 0)
		}
	}
}

func TestP61Cut(t *testing.T) {
	b := numbered(1100)
	for _, x := range []struct {
		n    int
		want [][]byte
	}{
		{0, nil},
		{1, [][]byte{b[:1]}},
		{503, [][]byte{b[:503]}},
		{504, [][]byte{b[:504]}},
		{505, [][]byte{b[:504], b[504:505]}},
		{1007, [][]byte{b[:504], b[504:1007]}},
		{1008, [][]byte{b[:504], b[504:1008]}},
		{1009, [][]byte{b[:504], b[504:1008], b[1008:1009]}},
		{1100, [][]byte{b[:504], b[504:1008], b[1008:1100]}},
	} {
		if got := chain.Cut(b[:x.n], 512); !sameParts(got, x.want) {
			t.Errorf("Cut of %d bytes: %v", x.n, got)
		}
		wantCut(t, b[:x.n], 512)
	}
	if got := chain.Cut(nil, 512); len(got) != 0 {
		t.Errorf("Cut of nil: %v", got)
	}
	if got := chain.Cut([]byte{}, 4096); len(got) != 0 {
		t.Errorf("Cut of nothing: %v", got)
	}
}

func TestP61CutSizes(t *testing.T) {
	b := numbered(20000)
	for size := 512; size <= 4096; size += 1 + size%5 {
		for _, n := range near(size) {
			wantCut(t, b[:n], size)
		}
	}
	for _, n := range []int{0, 1, 4087, 4088, 4089, 8176, 8177, 20000} {
		wantCut(t, b[:n], 512)
		wantCut(t, b[:n], 513)
		wantCut(t, b[:n], 4095)
		wantCut(t, b[:n], 4096)
	}
	for _, size := range wrong() {
		for _, n := range []int{0, 1, 504, 20000} {
			if got := chain.Cut(b[:n], size); len(got) != 0 {
				t.Errorf("Cut of %d bytes, %d: %d parts", n, size, len(got))
			}
		}
	}
}

// What was cut and is written to changes neither the other parts nor what was handed in, and the other way round.
func TestP61CutIsNewMemory(t *testing.T) {
	for _, n := range []int{1, 504, 505, 1008, 1300} {
		b := numbered(n)
		want := cutAsTold(b, 512)
		first, second := chain.Cut(b, 512), chain.Cut(b, 512)
		for i := range first {
			_ = append(first[i], bytes.Repeat([]byte{99}, 600)...)
			_ = append(first[i], 99)
		}
		if !sameParts(first, want) || !bytes.Equal(b, numbered(n)) {
			t.Errorf("of %d bytes: parts share bytes behind their ends", n)
		}
		clear(b)
		if !sameParts(first, want) {
			t.Errorf("of %d bytes: parts change with what was handed in", n)
		}
		copy(b, numbered(n))
		for i := range first {
			clear(first[i])
			if !sameParts(first[i+1:], want[i+1:]) {
				t.Errorf("of %d bytes: parts change with the one ahead", n)
			}
		}
		if !bytes.Equal(b, numbered(n)) || !sameParts(second, want) {
			t.Errorf("of %d bytes: what was handed in, or cut twice, changes with parts", n)
		}
	}
}

// P6.2

func TestP62PutBytes(t *testing.T) {
	b := make([]byte, 512)
	copy(b, []byte{3, 0, 0, 3, 1, 2, 3, 4, 'a', 0, 'c'})
	got, e := chain.Put([]byte{'a', 0, 'c'}, 0x01020304, 512)
	if e != api.OK || !bytes.Equal(got, b) {
		t.Errorf("Put: error %d, %v", e, got)
	}
	wantGet(t, "a page", b, []byte{'a', 0, 'c'}, 0x01020304, api.OK)
	full := append([]byte{3, 0, 1, 248, 0, 0, 0, 0}, numbered(504)...)
	got, e = chain.Put(numbered(504), 0, 512)
	if e != api.OK || !bytes.Equal(got, full) {
		t.Errorf("Put of a full page: error %d, %v", e, got)
	}
	wantGet(t, "a full page", full, numbered(504), 0, api.OK)
}

func TestP62Parts(t *testing.T) {
	for size := 512; size <= 4096; size++ {
		most := size - 8
		for _, n := range []int{1, 2, most - 1, most} {
			wantThere(t, "a part", numbered(n), 7, size)
			wantThere(t, "a part of noughts", make([]byte, n), 0, size)
			wantThere(t, "a part of the greatest bytes", bytes.Repeat([]byte{255}, n), math.MaxUint32, size)
		}
		for _, n := range []int{most + 1, most + 2, size, size + 1, 2 * most, 65536 + 5} {
			wantRefused(t, "a part that is too great", make([]byte, n), 7, size)
		}
		wantRefused(t, "no part", nil, 7, size)
		wantRefused(t, "a part of no bytes", []byte{}, 0, size)
	}
	for n := 1; n <= 4088; n++ {
		wantThere(t, "each length", numbered(n), 9, 4096)
	}
}

func TestP62Sizes(t *testing.T) {
	for _, size := range wrong() {
		wantRefused(t, "a part, of a wrong size", []byte{1}, 7, size)
		wantRefused(t, "a longer part, of a wrong size", numbered(504), 7, size)
		wantRefused(t, "no part, of a wrong size", nil, 7, size)
		wantRefused(t, "too great a part, of a wrong size", make([]byte, 70000), 7, size)
	}
	for _, size := range []int{9, 10, 100, 128, 384, 511, 4097, 4224, 8192, 70000} {
		wantNoPage(t, "a page of another size", pageAsTold([]byte{5}, 7, size))
		wantNoPage(t, "a full page of another size", pageAsTold(numbered(min(size, 65535)-8), 7, size))
	}
	b := pageAsTold(numbered(100), 7, 640)
	wantGet(t, "a page", b, numbered(100), 7, api.OK)
	wantGet(t, "a page of fewer noughts", b[:512], numbered(100), 7, api.OK)
	wantNoPage(t, "a byte less than the fewest", b[:511])
	wantNoPage(t, "a byte less, ahead", b[1:])
	wantNoPage(t, "half of it", b[:320])
	for n := range 120 {
		wantNoPage(t, "few bytes", b[:n])
	}
	wantNoPage(t, "nil", nil)
	wantNoPage(t, "no bytes", []byte{})
	full := pageAsTold(numbered(632), 7, 640)
	wantNoPage(t, "a full page, a byte less", full[:639])
	wantGet(t, "a full page, and a nought", append(slices.Clone(full), 0), numbered(632), 7, api.OK)
	wantNoPage(t, "a full page, and another byte", append(slices.Clone(full), 1))
}

func TestP62Next(t *testing.T) {
	for bit := range 32 {
		for _, next := range []api.Page{1<<bit - 1, 1 << bit, 1<<bit + 1} {
			wantThere(t, "a next page", []byte{1, 2}, next, 512)
		}
	}
	wantThere(t, "none", []byte{1, 2}, 0, 512)
	wantThere(t, "the greatest", []byte{1, 2}, math.MaxUint32, 4096)
}

func TestP62GetNoPage(t *testing.T) {
	set := func(at int, with ...byte) []byte {
		b := pageAsTold(numbered(300), 7, 512)
		copy(b[at:], with)
		return b
	}
	wantGet(t, "a page", set(0), numbered(300), 7, api.OK)
	for _, x := range []struct {
		what string
		b    []byte
	}{
		{"noughts alone", make([]byte, 512)},
		{"a byte 0", set(0, 0)},
		{"a leaf's byte", set(0, 1)},
		{"a branch's byte", set(0, 2)},
		{"a byte of pages that tell which are free", set(0, 4)},
		{"a byte 131", set(0, 131)},
		{"a byte 1 behind it", set(1, 1)},
		{"a byte 255 behind it", set(1, 255)},
		{"a length of 0", set(2, 0, 0)},
		{"a length one less", set(2, 1, 43)},
		{"a length too great", set(2, 1, 249)},
		{"the greatest length", set(2, 255, 255)},
		{"a length of the page", set(2, 2, 0)},
		{"a byte behind the part", set(308, 1)},
		{"a byte in the midst of the noughts", set(400, 128)},
		{"the last byte", set(511, 255)},
		{"a length of 0, of noughts behind the next page", pageAsTold(nil, 7, 512)},
		{"a length of 0 alone", pageAsTold(nil, 0, 4096)},
		{"a length too great, of a full page", layAsTold(505, 7, numbered(504), 512)},
		{"a length one less, of a full page", layAsTold(503, 7, numbered(504), 512)},
		{"a length too great, of the greatest page", layAsTold(4089, 7, numbered(4088), 4096)},
		{"a length of 65536 less some", layAsTold(65535, 7, numbered(4088), 4096)},
		{"lengths the other way round", layAsTold(44<<8|1, 7, numbered(300), 512)},
	} {
		wantNoPage(t, x.what, x.b)
	}
	wantGet(t, "a length one more, of a nought", set(2, 1, 45), append(numbered(300), 0), 7, api.OK)
	wantGet(t, "a length up to the end", set(2, 1, 248), set(0)[8:], 7, api.OK)
}

// Each byte of some pages is changed to each other one.
func TestP62GetAllButOneByte(t *testing.T) {
	for _, part := range [][]byte{{1}, {0}, numbered(300), numbered(503), numbered(504), make([]byte, 200)} {
		page := pageAsTold(part, 0x01020304, 512)
		wantGet(t, "the page", page, part, 0x01020304, api.OK)
		for i := range page {
			for c := range 256 {
				b := slices.Clone(page)
				b[i] = byte(c)
				wantPart, wantNext, e := getAsTold(b)
				wantGet(t, "all but one byte", b, wantPart, wantNext, e)
				if isFree := i >= 8+len(part); isFree && (e == api.OK) != (c == 0) {
					t.Error("the test itself is wrong")
				}
			}
			if t.Failed() {
				t.Fatalf("byte %d of a part of %d bytes", i, len(part))
			}
		}
	}
}

// Other kinds' pages are none of these.
func TestP62GetOtherKinds(t *testing.T) {
	b, e := leaf.Put([]leaf.Entry{{Key: []byte("a"), Long: 700, First: 2}}, 512)
	if e != api.OK {
		t.Fatal(e)
	}
	wantNoPage(t, "a leaf's page", b)
	b, e = branch.Put([]branch.Entry{{Child: 2}, {Key: []byte("a"), Child: 3}}, 512)
	if e != api.OK {
		t.Fatal(e)
	}
	wantNoPage(t, "a branch's page", b)
	b, _ = chain.Put(numbered(504), 7, 512)
	if _, e := leaf.Get(b); e != api.ErrForm {
		t.Errorf("a leaf's Get of a chain's page: error %d", e)
	}
	if _, e := branch.Get(b); e != api.ErrForm {
		t.Errorf("a branch's Get of a chain's page: error %d", e)
	}
}

// Bytes by chance, and pages of which some bytes are others.
func TestP62GetAnyBytes(t *testing.T) {
	chance := rand.New(rand.NewPCG(6, 2))
	pages := 0
	for i := range 20000 {
		size := 512 + chance.IntN(3585)
		n := 1 + chance.IntN(size-8)
		if chance.IntN(2) == 0 {
			n = size - 8 - chance.IntN(3)
		}
		b := pageAsTold(someBytes(chance, n), api.Page(chance.Uint32()), size)
		for range chance.IntN(4) {
			k := chance.IntN(len(b))
			if chance.IntN(3) == 0 {
				k = chance.IntN(8)
			}
			b[k] += byte(chance.IntN(5) - 2)
		}
		if i%10 == 0 {
			b = append([]byte{3, 0}, someBytes(chance, size)...)
		}
		part, next, e := getAsTold(b)
		wantGet(t, "any bytes", b, part, next, e)
		if e == api.OK {
			pages++
		}
		if t.Failed() {
			return
		}
	}
	if pages < 5000 || pages > 19000 {
		t.Errorf("%d of them are pages", pages)
	}
}

func TestP62PutKeepsNothing(t *testing.T) {
	for _, n := range []int{1, 300, 504} {
		part := numbered(n)
		want := pageAsTold(part, 7, 512)
		b, _ := chain.Put(part, 7, 512)
		other, _ := chain.Put(part, 7, 512)
		if !bytes.Equal(part, numbered(n)) {
			t.Error("what is handed in is changed")
		}
		clear(part)
		if !bytes.Equal(b, want) {
			t.Error("a page changes with the part that was handed in")
		}
		copy(part, numbered(n))
		clear(b)
		_ = append(b, 9)
		if !bytes.Equal(other, want) || !bytes.Equal(part, numbered(n)) {
			t.Error("a page shares bytes with another one, or with the part")
		}
	}
}

// A part may stand amid other bytes, which stay as they are.
func TestP62PutOfAPiece(t *testing.T) {
	whole := numbered(1000)
	wantThere(t, "a piece", whole[100:400], 7, 512)
	b, _ := chain.Put(whole[100:400], 7, 512)
	clear(b)
	if !bytes.Equal(whole, numbered(1000)) {
		t.Error("what is handed in is changed")
	}
}

func TestP62GetIsNewMemory(t *testing.T) {
	for _, n := range []int{1, 300, 504} {
		page := pageAsTold(numbered(n), 7, 512)
		b := slices.Clone(page)
		first, _, _ := chain.Get(b)
		second, _, _ := chain.Get(b)
		_ = append(first, bytes.Repeat([]byte{99}, 600)...)
		_ = append(first, 99)
		if !bytes.Equal(b, page) || !bytes.Equal(second, numbered(n)) {
			t.Error("behind a part there are bytes of somebody else")
		}
		clear(b)
		if !bytes.Equal(first, numbered(n)) {
			t.Error("a part changes with its page")
		}
		copy(b, page)
		clear(first)
		if !bytes.Equal(b, page) || !bytes.Equal(second, numbered(n)) {
			t.Error("a part shares bytes with its page, or with another one")
		}
	}
}

// P6.3

func TestP63WhatIsPutIsGot(t *testing.T) {
	chance := rand.New(rand.NewPCG(6, 3))
	for range 3000 {
		size := 512 + chance.IntN(3585)
		part := someBytes(chance, 1+chance.IntN(size-8))
		next := api.Page(chance.Uint32() >> chance.IntN(32))
		b, e := chain.Put(part, next, size)
		if e != api.OK || len(b) != size {
			t.Fatalf("Put of %d bytes, size %d: error %d, %d bytes", len(part), size, e, len(b))
		}
		got, gotNext, e := chain.Get(b)
		if e != api.OK || gotNext != next || !bytes.Equal(got, part) {
			t.Fatalf("Get of what was put: error %d, next %d, want %d, %v, want %v", e, gotNext, next, got, part)
		}
		again, e := chain.Put(got, gotNext, size)
		if e != api.OK || !bytes.Equal(again, b) {
			t.Fatalf("Put of what was got: error %d", e)
		}
	}
}

// wantBehind puts a value's parts, each one with the number of the page behind it, and follows these numbers.
func wantBehind(t *testing.T, value []byte, size int) {
	t.Helper()
	parts := chain.Cut(value, size)
	wantMany(t, len(value), size, len(parts))
	pages := map[api.Page][]byte{}
	for i, part := range parts {
		next := api.Page(11 + i)
		if i == len(parts)-1 {
			next = 0
		}
		b, e := chain.Put(part, next, size)
		if e != api.OK {
			t.Fatalf("Put of part %d: error %d", i, e)
		}
		pages[api.Page(10+i)] = b
	}
	var got []byte
	next := api.Page(10)
	for range parts {
		part, behind, e := chain.Get(pages[next])
		if e != api.OK {
			t.Fatalf("Get of page %d: error %d", next, e)
		}
		got, next = append(got, part...), behind
	}
	if !bytes.Equal(got, value) || len(parts) > 0 && next != 0 {
		t.Errorf("%d bytes, of size %d, aren't what was cut, or page %d is behind", len(value), size, next)
	}
}

func TestP63PartsAreWhatWasCut(t *testing.T) {
	chance := rand.New(rand.NewPCG(6, 4))
	for _, size := range []int{512, 513, 640, 4095, 4096} {
		for _, n := range append(near(size), api.MaxValue-1, api.MaxValue, 70000) {
			wantBehind(t, someBytes(chance, n), size)
			wantBehind(t, make([]byte, n), size)
		}
	}
	for range 500 {
		wantBehind(t, someBytes(chance, chance.IntN(20000)), 512+chance.IntN(3585))
	}
	wantBehind(t, nil, 512)
}
