package meta_test

import (
	"bytes"
	"hash/crc32"
	"math"
	"math/rand/v2"
	"slices"
	"testing"

	"rubricator/api"
	"rubricator/branch"
	"rubricator/chain"
	"rubricator/leaf"
	"rubricator/meta"
)

// The words of the chapter, told again, byte by byte.

const (
	txnMost  = math.MaxUint64
	pageMost = math.MaxUint32
)

// summed are 28 bytes, and their sum.
func summed(b []byte) []byte {
	x := crc32.ChecksumIEEE(b[:28])
	return append(slices.Clone(b[:28]), byte(x>>24), byte(x>>16), byte(x>>8), byte(x))
}

// layAsTold lays what may be, or may not, in a page of so many bytes that tells of size.
func layAsTold(m meta.Meta, size, length int) []byte {
	b := []byte("RUB1")
	b = append(b, byte(size>>24), byte(size>>16), byte(size>>8), byte(size))
	for i := range 8 {
		b = append(b, byte(m.Txn>>(56-8*i)))
	}
	for _, p := range []api.Page{m.End, m.Main, m.Free} {
		b = append(b, byte(p>>24), byte(p>>16), byte(p>>8), byte(p))
	}
	b = summed(b)
	return append(b, make([]byte, max(0, length-len(b)))...)[:length]
}

func pageAsTold(m meta.Meta, size int) []byte { return layAsTold(m, size, size) }

func isSize(size int) bool { return 512 <= size && size <= 4096 }

func pageIsRight(p, end api.Page) bool { return p == 0 || 2 <= p && p < end }

func rightAsTold(m meta.Meta) bool {
	return m.Txn >= 1 && m.End >= 2 && pageIsRight(m.Main, m.End) && pageIsRight(m.Free, m.End)
}

// num is the number that some bytes are.
func num(b []byte) uint64 {
	var x uint64
	for _, c := range b {
		x = x*256 + uint64(c)
	}
	return x
}

// getAsTold asks in the order in which the promise does.
func getAsTold(b []byte) (meta.Meta, api.Errno) {
	if !isSize(len(b)) || string(b[:4]) != "RUB1" || num(b[4:8]) != uint64(len(b)) || !bytes.Equal(b[32:], make([]byte, len(b)-32)) {
		return meta.Meta{}, api.ErrForm
	}
	if uint64(crc32.ChecksumIEEE(b[:28])) != num(b[28:32]) {
		return meta.Meta{}, api.ErrSum
	}
	m := meta.Meta{Txn: num(b[8:16]), End: api.Page(num(b[16:20])), Main: api.Page(num(b[20:24])), Free: api.Page(num(b[24:28]))}
	if !rightAsTold(m) {
		return meta.Meta{}, api.ErrForm
	}
	return m, api.OK
}

// chooseAsTold goes by the words: those that Get takes, in their slots, and of them the one of the greater Txn.
func chooseAsTold(a, b []byte) (meta.Meta, api.Errno) {
	ma, ea := getAsTold(a)
	mb, eb := getAsTold(b)
	isA := ea == api.OK && ma.Txn%2 == 0
	isB := eb == api.OK && mb.Txn%2 == 1
	switch {
	case isA && (!isB || ma.Txn > mb.Txn):
		return ma, api.OK
	case isB:
		return mb, api.OK
	}
	return meta.Meta{}, api.ErrCorrupt
}

// What the tests are made of.

// of is one of a change, with numbers of its own.
func of(txn uint64) meta.Meta {
	return meta.Meta{Txn: txn, End: 40 + api.Page(txn%1000), Main: 2 + api.Page(txn%7), Free: 9 + api.Page(txn%5)}
}

func page(txn uint64) []byte { return pageAsTold(of(txn), 512) }

// wrong are sizes that no page has.
func wrong() []int {
	return []int{511, 4097, 0, 1, 4, 27, 28, 31, 32, 33, 128, -1, -32, -512, 8192, 65536, 512 + 1<<32, math.MaxInt, math.MinInt}
}

// pagesAbout are numbers at the edges of what may be below an end.
func pagesAbout(end api.Page) []api.Page {
	return []api.Page{0, 1, 2, 3, end - 2, end - 1, end, end + 1, end + 2, 1 << 31, pageMost - 1, pageMost}
}

func wantSlot(t *testing.T, txn uint64, want int) {
	t.Helper()
	if got := meta.Slot(txn); got != want {
		t.Errorf("Slot of %d: got %d, want %d", txn, got, want)
	}
}

func wantGet(t *testing.T, what string, b []byte, m meta.Meta, e api.Errno) {
	t.Helper()
	if got, is := meta.Get(b); is != e || got != m {
		t.Errorf("%s, of %d bytes: Get tells error %d, want %d, %v, want %v", what, len(b), is, e, got, m)
	}
	if want, is := getAsTold(b); is != e || want != m {
		t.Errorf("%s: the test itself is wrong", what)
	}
}

func wantChosen(t *testing.T, what string, a, b []byte, m meta.Meta, e api.Errno) {
	t.Helper()
	if got, is := meta.Choose(a, b); is != e || got != m {
		t.Errorf("%s: Choose tells error %d, want %d, %v, want %v", what, is, e, got, m)
	}
	if want, is := chooseAsTold(a, b); is != e || want != m {
		t.Errorf("%s: the test itself is wrong", what)
	}
}

// wantAsTold holds Right, Put and Get against the chapter's words, of what may be, or may not.
func wantAsTold(t *testing.T, m meta.Meta, size int) {
	t.Helper()
	right := rightAsTold(m)
	if got := meta.Right(m); got != right {
		t.Errorf("Right of %v: %t", m, got)
	}
	want, form := pageAsTold(m, size), api.ErrForm
	if right {
		form = api.OK
	}
	b, e := meta.Put(m, size)
	if right && (e != api.OK || !bytes.Equal(b, want)) || !right && (e != api.ErrArg || b != nil) {
		t.Errorf("Put of %v, size %d: error %d, %v", m, size, e, b)
	}
	if !right {
		m = meta.Meta{}
	}
	wantGet(t, "a page whose sum fits", want, m, form)
}

func wantRefused(t *testing.T, what string, m meta.Meta, size int) {
	t.Helper()
	if b, e := meta.Put(m, size); e != api.ErrArg || b != nil {
		t.Errorf("%s, %v, of size %d: Put tells error %d, and %d bytes", what, m, size, e, len(b))
	}
}

// P7.1

func TestP71Slot(t *testing.T) {
	for _, x := range []struct {
		txn  uint64
		want int
	}{{0, 0}, {1, 1}, {2, 0}, {3, 1}, {4, 0}, {5, 1}, {256, 0}, {257, 1}, {1 << 32, 0}, {1<<32 + 1, 1}, {math.MaxInt64, 1}, {1 << 63, 0}, {1<<63 + 1, 1}, {txnMost - 1, 0}, {txnMost, 1}} {
		wantSlot(t, x.txn, x.want)
	}
	for bit := 1; bit < 64; bit++ {
		wantSlot(t, 1<<bit, 0)
		wantSlot(t, 1<<bit-1, 1)
		wantSlot(t, 1<<bit+1, 1)
	}
}

func TestP71Right(t *testing.T) {
	for _, x := range []struct {
		m    meta.Meta
		want bool
	}{
		{meta.Meta{}, false},
		{meta.Meta{Txn: 1, End: 2}, true},
		{meta.Meta{Txn: 0, End: 2}, false},
		{meta.Meta{Txn: txnMost, End: 2}, true},
		{meta.Meta{Txn: 1, End: 0}, false},
		{meta.Meta{Txn: 1, End: 1}, false},
		{meta.Meta{Txn: 1, End: pageMost}, true},
		{meta.Meta{Txn: 1, End: 2, Main: 1}, false},
		{meta.Meta{Txn: 1, End: 2, Free: 1}, false},
		{meta.Meta{Txn: 1, End: 2, Main: 2}, false},
		{meta.Meta{Txn: 1, End: 2, Free: 2}, false},
		{meta.Meta{Txn: 1, End: 3, Main: 2}, true},
		{meta.Meta{Txn: 1, End: 3, Free: 2}, true},
		{meta.Meta{Txn: 1, End: 3, Main: 3}, false},
		{meta.Meta{Txn: 1, End: 3, Free: 3}, false},
		{meta.Meta{Txn: 1, End: 9, Main: 1, Free: 8}, false},
		{meta.Meta{Txn: 1, End: 9, Main: 8, Free: 1}, false},
		{meta.Meta{Txn: 1, End: 9, Main: 8, Free: 8}, true},
		{meta.Meta{Txn: 1, End: 9, Main: 9, Free: 8}, false},
		{meta.Meta{Txn: 1, End: 9, Main: 8, Free: 9}, false},
		{meta.Meta{Txn: 1, End: 9, Main: 10, Free: 8}, false},
		{meta.Meta{Txn: 1, End: 9, Main: 0, Free: 8}, true},
		{meta.Meta{Txn: 1, End: 9, Main: 8, Free: 0}, true},
		{meta.Meta{Txn: 7, End: pageMost, Main: pageMost - 1, Free: pageMost - 1}, true},
		{meta.Meta{Txn: 7, End: pageMost, Main: pageMost}, false},
		{meta.Meta{Txn: 7, End: pageMost, Free: pageMost}, false},
		{meta.Meta{Txn: 7, End: 9, Main: pageMost}, false},
		{meta.Meta{Txn: 7, End: 9, Free: pageMost}, false},
	} {
		if got := meta.Right(x.m); got != x.want {
			t.Errorf("Right of %v: %t", x.m, got)
		}
		wantAsTold(t, x.m, 512)
	}
}

// All numbers at their edges, each with each.
func TestP71Edges(t *testing.T) {
	for _, txn := range []uint64{0, 1, 2, 255, 256, 1 << 32, txnMost - 1, txnMost} {
		for _, end := range []api.Page{0, 1, 2, 3, 4, 9, 256, 65536, 1 << 31, pageMost - 1, pageMost} {
			for _, main := range pagesAbout(end) {
				for _, free := range pagesAbout(end) {
					wantAsTold(t, meta.Meta{Txn: txn, End: end, Main: main, Free: free}, 512)
				}
			}
		}
	}
}

func TestP71FewPages(t *testing.T) {
	for txn := range uint64(3) {
		for end := range api.Page(6) {
			for main := range api.Page(7) {
				for free := range api.Page(7) {
					wantAsTold(t, meta.Meta{Txn: txn, End: end, Main: main, Free: free}, 4096)
				}
			}
		}
	}
}

func TestP71PutBytes(t *testing.T) {
	b, e := meta.Put(meta.Meta{Txn: 0x0102030405060708, End: 0x11121314, Main: 0x090a0b0c, Free: 0x0d0e0f10}, 512)
	if e != api.OK || len(b) != 512 {
		t.Fatalf("Put: error %d, %d bytes", e, len(b))
	}
	told := []byte{
		'R', 'U', 'B', '1', 0, 0, 2, 0, 1, 2, 3, 4, 5, 6, 7, 8,
		0x11, 0x12, 0x13, 0x14, 0x09, 0x0a, 0x0b, 0x0c, 0x0d, 0x0e, 0x0f, 0x10,
	}
	if !bytes.Equal(b[:28], told) {
		t.Errorf("what is told: %v", b[:28])
	}
	if x := crc32.ChecksumIEEE(told); num(b[28:32]) != uint64(x) {
		t.Errorf("the sum: %v, want %d", b[28:32], x)
	}
	if !bytes.Equal(b[32:], make([]byte, 480)) {
		t.Errorf("noughts: %v", b[32:])
	}
}

func TestP71Sizes(t *testing.T) {
	for size := 512; size <= 4096; size++ {
		wantAsTold(t, of(5), size)
		wantAsTold(t, meta.Meta{Txn: txnMost, End: pageMost, Main: pageMost - 1, Free: 2}, size)
	}
	for _, size := range wrong() {
		wantRefused(t, "a wrong size", of(5), size)
		wantRefused(t, "a wrong size", meta.Meta{Txn: 1, End: 2}, size)
		wantRefused(t, "a wrong size, and what may not be", meta.Meta{}, size)
	}
	wantRefused(t, "what may not be", meta.Meta{}, 512)
	wantRefused(t, "what may not be", meta.Meta{Txn: 1, End: 9, Main: 9}, 4096)
}

// All that isn't a nought stands in the first sector.
func TestP71FirstSector(t *testing.T) {
	for _, size := range []int{512, 640, 1024, 4096} {
		b, e := meta.Put(meta.Meta{Txn: txnMost, End: pageMost, Main: pageMost - 1, Free: pageMost - 1}, size)
		if e != api.OK || !bytes.Equal(b[api.Sector:], make([]byte, size-api.Sector)) {
			t.Errorf("size %d: error %d, %v", size, e, b)
		}
	}
}

func TestP71PutIsNewMemory(t *testing.T) {
	first, _ := meta.Put(of(5), 512)
	second, _ := meta.Put(of(5), 512)
	clear(first)
	_ = append(first, 9)
	if !bytes.Equal(second, page(5)) {
		t.Error("a page shares bytes with another one")
	}
}

// P7.2

func TestP72GetBytes(t *testing.T) {
	b := slices.Concat([]byte{
		'R', 'U', 'B', '1', 0, 0, 2, 1, 0, 0, 0, 0, 0, 0, 1, 2,
		0, 0, 1, 0, 0, 0, 0, 255, 0, 0, 0, 2,
	}, make([]byte, 485))
	wantGet(t, "without a sum", b, meta.Meta{}, api.ErrSum)
	copy(b, summed(b))
	wantGet(t, "a page", b, meta.Meta{Txn: 258, End: 256, Main: 255, Free: 2}, api.OK)
}

func TestP72Lengths(t *testing.T) {
	for n := range 5000 {
		b := pageAsTold(of(5), n)
		if isSize(n) {
			wantGet(t, "a page", b, of(5), api.OK)
		} else {
			wantGet(t, "a page of another size", b, meta.Meta{}, api.ErrForm)
		}
	}
	for _, n := range []int{8192, 65536 + 512, 1 << 20} {
		wantGet(t, "a page of another size", pageAsTold(of(5), n), meta.Meta{}, api.ErrForm)
	}
	wantGet(t, "nil", nil, meta.Meta{}, api.ErrForm)
	wantGet(t, "no bytes", []byte{}, meta.Meta{}, api.ErrForm)
	wantGet(t, "noughts", make([]byte, 512), meta.Meta{}, api.ErrForm)
	wantGet(t, "noughts", make([]byte, 4096), meta.Meta{}, api.ErrForm)
}

// A page tells as many bytes as it has, or is none.
func TestP72AnotherLength(t *testing.T) {
	for _, size := range []int{512, 513, 640, 1024, 4095, 4096} {
		for _, length := range []int{512, 513, 640, 1024, 4095, 4096} {
			if size != length {
				wantGet(t, "another length than told", layAsTold(of(5), size, length), meta.Meta{}, api.ErrForm)
			}
		}
	}
	for _, size := range []int{0, 1, 511, 4097, 512 + 1<<8, 512 + 1<<16, 512 + 1<<24, 2 << 24, pageMost} {
		wantGet(t, "another length than told", layAsTold(of(5), size, 512), meta.Meta{}, api.ErrForm)
	}
	b := pageAsTold(of(5), 640)
	wantGet(t, "a page", b, of(5), api.OK)
	wantGet(t, "a nought less", b[:639], meta.Meta{}, api.ErrForm)
	wantGet(t, "many noughts less", b[:512], meta.Meta{}, api.ErrForm)
	wantGet(t, "a nought more", append(slices.Clone(b), 0), meta.Meta{}, api.ErrForm)
	wantGet(t, "a byte less, ahead", b[1:], meta.Meta{}, api.ErrForm)
	for n := range 40 {
		wantGet(t, "few bytes", b[:n], meta.Meta{}, api.ErrForm)
	}
}

// Each byte of some pages is changed to each other one: the first eight and the noughts are the form's, all others the sum's.
func TestP72AllButOneByte(t *testing.T) {
	for _, m := range []meta.Meta{of(5), {Txn: 1, End: 2}, {Txn: txnMost, End: pageMost, Main: pageMost - 1, Free: pageMost - 1}} {
		b := pageAsTold(m, 640)
		wantGet(t, "the page", b, m, api.OK)
		for i := range b {
			e := api.ErrForm
			if i >= 8 && i < 32 {
				e = api.ErrSum
			}
			c := b[i]
			for more := 1; more < 256; more++ {
				b[i] = c + byte(more)
				wantGet(t, "all but one byte", b, meta.Meta{}, e)
			}
			b[i] = c
			if t.Failed() {
				t.Fatalf("byte %d", i)
			}
		}
	}
}

// As above, with a sum that fits: it is told by the numbers alone whether they may be.
func TestP72AllButOneByteWithItsSum(t *testing.T) {
	m := meta.Meta{Txn: 1, End: 0x01000300, Main: 0x00010002, Free: 0x01000200}
	for i := range 28 {
		for c := range 256 {
			b := pageAsTold(m, 512)
			b[i] = byte(c)
			copy(b, summed(b))
			want, e := getAsTold(b)
			wantGet(t, "all but one byte, and the sum", b, want, e)
			if i < 8 && e == api.OK && want != m {
				t.Error("the test itself is wrong")
			}
		}
	}
}

// Which error is told where more than one might be.
func TestP72ErrorsInOrder(t *testing.T) {
	bad := meta.Meta{Txn: 0, End: 1, Main: 1, Free: pageMost}
	b := pageAsTold(bad, 512)
	wantGet(t, "numbers that may not be", b, meta.Meta{}, api.ErrForm)
	b[30]++
	wantGet(t, "and a sum that doesn't fit", b, meta.Meta{}, api.ErrSum)
	b[40]++
	wantGet(t, "and a byte behind it", b, meta.Meta{}, api.ErrForm)
	b = page(5)
	b[30]++
	wantGet(t, "a sum that doesn't fit", b, meta.Meta{}, api.ErrSum)
	for _, at := range []int{0, 3, 4, 7, 32, 127, 128, 511} {
		c := slices.Clone(b)
		c[at]++
		wantGet(t, "and another byte", c, meta.Meta{}, api.ErrForm)
	}
	wantGet(t, "and another length", b[:511], meta.Meta{}, api.ErrForm)
}

func TestP72NumbersThatMayNotBe(t *testing.T) {
	for _, m := range []meta.Meta{
		{}, {Txn: 0, End: 9, Main: 2, Free: 3}, {Txn: 1, End: 0}, {Txn: 1, End: 1}, {Txn: 4, End: 9, Main: 1}, {Txn: 4, End: 9, Free: 1},
		{Txn: 4, End: 9, Main: 9}, {Txn: 4, End: 9, Free: 9}, {Txn: 4, End: 9, Main: 10}, {Txn: 4, End: 9, Free: 10},
		{Txn: 4, End: 9, Main: pageMost, Free: 3}, {Txn: 4, End: 9, Main: 3, Free: pageMost}, {Txn: 4, End: pageMost, Main: pageMost},
	} {
		wantGet(t, "numbers that may not be", pageAsTold(m, 512), meta.Meta{}, api.ErrForm)
		wantChosen(t, "numbers that may not be, alone", pageAsTold(m, 512), pageAsTold(m, 512), meta.Meta{}, api.ErrCorrupt)
		wantChosen(t, "numbers that may not be, as a", pageAsTold(m, 512), page(1), of(1), api.OK)
		wantChosen(t, "numbers that may not be, as b", page(2), pageAsTold(m, 512), of(2), api.OK)
	}
}

// Other kinds' pages are none of these, and these are none of theirs.
func TestP72OtherKinds(t *testing.T) {
	b, _ := leaf.Put([]leaf.Entry{{Key: []byte("a"), Long: 700, First: 2}}, 512)
	wantGet(t, "a leaf's page", b, meta.Meta{}, api.ErrForm)
	b, _ = branch.Put([]branch.Entry{{Child: 2}, {Key: []byte("a"), Child: 3}}, 512)
	wantGet(t, "a branch's page", b, meta.Meta{}, api.ErrForm)
	b, _ = chain.Put(page(5)[:32], 7, 512)
	wantGet(t, "a chain's page", b, meta.Meta{}, api.ErrForm)
	b, _ = meta.Put(of(5), 512)
	if _, e := leaf.Get(b); e != api.ErrForm {
		t.Errorf("a leaf's Get: error %d", e)
	}
	if _, e := branch.Get(b); e != api.ErrForm {
		t.Errorf("a branch's Get: error %d", e)
	}
	if _, _, e := chain.Get(b); e != api.ErrForm {
		t.Errorf("a chain's Get: error %d", e)
	}
}

// Bytes by chance, and pages of which some bytes are others, with their sum or without.
func TestP72AnyBytes(t *testing.T) {
	chance := rand.New(rand.NewPCG(7, 2))
	told := map[api.Errno]int{}
	for i := range 30000 {
		size := 512 + chance.IntN(3585)
		m := meta.Meta{Txn: chance.Uint64() >> chance.IntN(64), End: api.Page(chance.Uint32() >> chance.IntN(32))}
		m.Main, m.Free = api.Page(chance.Uint32()>>chance.IntN(32)), api.Page(chance.Uint32()>>chance.IntN(32))
		b := pageAsTold(m, size)
		for range chance.IntN(3) {
			b[chance.IntN(34)] += byte(chance.IntN(5) - 2)
		}
		if chance.IntN(2) == 0 {
			copy(b, summed(b))
		}
		if i%10 == 0 {
			for k := range b {
				b[k] = byte(chance.Uint32())
			}
		}
		want, e := getAsTold(b)
		wantGet(t, "any bytes", b, want, e)
		told[e]++
		if t.Failed() {
			return
		}
	}
	for _, e := range []api.Errno{api.OK, api.ErrForm, api.ErrSum} {
		if told[e] < 1000 {
			t.Errorf("error %d is told %d times alone", e, told[e])
		}
	}
}

func TestP72NothingIsChanged(t *testing.T) {
	a, b := page(4), page(5)
	first, _ := meta.Get(a)
	chosen, _ := meta.Choose(a, b)
	if !bytes.Equal(a, page(4)) || !bytes.Equal(b, page(5)) {
		t.Error("what is handed in is changed")
	}
	clear(a)
	clear(b)
	if first != of(4) || chosen != of(5) {
		t.Error("what is told changes with what was handed in")
	}
}

func TestP72Example(t *testing.T) {
	wantChosen(t, "those of 4 and 5", page(4), page(5), of(5), api.OK)
	five, _ := meta.Put(of(5), 512)
	four, _ := meta.Put(of(4), 512)
	if m, e := meta.Choose(four, five); e != api.OK || m != of(5) {
		t.Errorf("Choose: error %d, %v", e, m)
	}
}

func TestP72Choose(t *testing.T) {
	for _, x := range []struct {
		what string
		a, b uint64
		want uint64
	}{
		{"the first two", 2, 1, 2},
		{"two on end, a's first", 4, 5, 5},
		{"two on end, b's first", 6, 5, 6},
		{"two far apart", 4, 1001, 1001},
		{"two far apart", 1000, 5, 1000},
		{"two on end, past 32 bits", 1 << 32, 1<<32 + 1, 1<<32 + 1},
		{"the lower half of the bits is less", 1 << 32, 1<<32 - 1, 1 << 32},
		{"past 63 bits", 1 << 63, 1<<63 - 1, 1 << 63},
		{"past 63 bits", 1 << 63, 1, 1 << 63},
		{"past 63 bits", 2, 1<<63 + 1, 1<<63 + 1},
		{"the greatest", txnMost - 1, txnMost, txnMost},
		{"the greatest one less", txnMost - 1, txnMost - 2, txnMost - 1},
		{"the greatest and the least", 2, txnMost, txnMost},
	} {
		wantChosen(t, x.what, page(x.a), page(x.b), of(x.want), api.OK)
	}
}

// A page counts only in its place.
func TestP72ChooseSlots(t *testing.T) {
	for _, x := range []struct {
		what string
		a, b uint64
		want uint64
	}{
		{"both of one change, of slot 0", 4, 4, 4},
		{"both of one change, of slot 1", 5, 5, 5},
		{"both of slot 0", 4, 6, 4},
		{"both of slot 0, the greater one in its place", 6, 4, 6},
		{"both of slot 1", 3, 5, 5},
		{"both of slot 1, the lesser one in its place", 5, 3, 3},
		{"in each other's place", 5, 4, 0},
		{"in each other's place", 1, 2, 0},
		{"in each other's place", txnMost, txnMost - 1, 0},
	} {
		if x.want == 0 {
			wantChosen(t, x.what, page(x.a), page(x.b), meta.Meta{}, api.ErrCorrupt)
		} else {
			wantChosen(t, x.what, page(x.a), page(x.b), of(x.want), api.OK)
		}
	}
	same := page(5)
	wantChosen(t, "the same bytes twice", same, same, of(5), api.OK)
}

func TestP72ChooseOfFewer(t *testing.T) {
	none := make([]byte, 512)
	for _, bad := range [][]byte{nil, {}, none, page(4)[:511], []byte("RUB1"), bytes.Repeat([]byte{255}, 4096)} {
		wantChosen(t, "a alone", page(4), bad, of(4), api.OK)
		wantChosen(t, "b alone", bad, page(5), of(5), api.OK)
		wantChosen(t, "a alone, in b's place", bad, page(4), meta.Meta{}, api.ErrCorrupt)
		wantChosen(t, "b alone, in a's place", page(5), bad, meta.Meta{}, api.ErrCorrupt)
		wantChosen(t, "none", bad, bad, meta.Meta{}, api.ErrCorrupt)
		wantChosen(t, "none", bad, none, meta.Meta{}, api.ErrCorrupt)
	}
}

// Pages of two sizes: the chapter holds neither against the other one.
func TestP72ChooseOfTwoSizes(t *testing.T) {
	wantChosen(t, "the greater page is newer", page(4), pageAsTold(of(5), 4096), of(5), api.OK)
	wantChosen(t, "the lesser page is newer", page(6), pageAsTold(of(5), 4096), of(6), api.OK)
}

func TestP72ChooseByChance(t *testing.T) {
	chance := rand.New(rand.NewPCG(7, 3))
	corrupt := 0
	for range 20000 {
		pages := [2][]byte{page(chance.Uint64N(8)), page(chance.Uint64N(8))}
		for i := range pages {
			if chance.IntN(3) == 0 {
				pages[i][chance.IntN(40)] += byte(chance.IntN(3))
			}
		}
		want, e := chooseAsTold(pages[0], pages[1])
		wantChosen(t, "two by chance", pages[0], pages[1], want, e)
		if e != api.OK {
			corrupt++
		}
		if t.Failed() {
			return
		}
	}
	if corrupt < 1000 || corrupt > 19000 {
		t.Errorf("%d of them are corrupt", corrupt)
	}
}

// P7.3

func TestP73WhatIsPutIsGot(t *testing.T) {
	chance := rand.New(rand.NewPCG(7, 4))
	for range 20000 {
		end := 2 + api.Page(chance.Uint32N(pageMost-1)>>chance.IntN(32))
		m := meta.Meta{Txn: 1 + chance.Uint64N(txnMost)>>chance.IntN(64), End: end}
		for _, p := range []*api.Page{&m.Main, &m.Free} {
			if end > 2 && chance.IntN(4) > 0 {
				*p = 2 + api.Page(chance.Uint32N(uint32(end)-2))
			}
		}
		size := 512 + chance.IntN(3585)
		b, e := meta.Put(m, size)
		if e != api.OK || len(b) != size {
			t.Fatalf("Put of %v, size %d: error %d, %d bytes", m, size, e, len(b))
		}
		got, e := meta.Get(b)
		if e != api.OK || got != m {
			t.Fatalf("Get of what was put: error %d, %v, want %v", e, got, m)
		}
		again, e := meta.Put(got, size)
		if e != api.OK || !bytes.Equal(again, b) {
			t.Fatalf("Put of what was got: error %d, %v, want %v", e, again, b)
		}
	}
}

// Each byte of one of both is spoiled, in turn: the other one is chosen.
func TestP73OneIsSpoiled(t *testing.T) {
	for _, x := range []struct{ a, b uint64 }{{4, 5}, {6, 5}, {2, 1}, {txnMost - 1, txnMost}} {
		for i := range 512 {
			for _, more := range []byte{1, 2, 128, 255} {
				a, b := page(x.a), page(x.b)
				a[i] += more
				wantChosen(t, "a is spoiled", a, b, of(x.b), api.OK)
				b[(i*7)%512] += more
				wantChosen(t, "both are spoiled", a, b, meta.Meta{}, api.ErrCorrupt)
				b = page(x.b)
				b[i] += more
				wantChosen(t, "b is spoiled", page(x.a), b, of(x.a), api.OK)
			}
			if t.Failed() {
				t.Fatalf("byte %d", i)
			}
		}
	}
}

// A page that was written over by its slot's next change, sector by sector: what is there is one of both, or spoiled in no other way.
func TestP73WrittenBySectors(t *testing.T) {
	for picked := range 16 {
		a := page(4)
		next := page(6)
		for sector := range 4 {
			if picked>>sector&1 == 1 {
				copy(a[sector*api.Sector:(sector+1)*api.Sector], next[sector*api.Sector:])
			}
		}
		want := of(5)
		if picked&1 == 1 {
			want = of(6)
		}
		wantChosen(t, "some sectors", a, page(5), want, api.OK)
	}
}

func TestP73ChangesByTurns(t *testing.T) {
	var file [2][]byte
	for txn := uint64(1); txn < 60; txn++ {
		b, e := meta.Put(of(txn), 512)
		if e != api.OK {
			t.Fatalf("Put of %d: error %d", txn, e)
		}
		before := file[meta.Slot(txn)]
		file[meta.Slot(txn)] = b
		wantChosen(t, "the newest", file[0], file[1], of(txn), api.OK)
		if txn > 1 {
			file[meta.Slot(txn)] = before
			wantChosen(t, "the one ahead of it", file[0], file[1], of(txn-1), api.OK)
			file[meta.Slot(txn)] = b
		}
	}
}
