package branch_test

import (
	"bytes"
	"math"
	"math/rand/v2"
	"slices"
	"strings"
	"testing"

	"rubricator/api"
	"rubricator/branch"
	"rubricator/leaf"
)

// The words of the chapter, told again, byte by byte.

// cellAsTold is an entry's cell.
func cellAsTold(x branch.Entry) []byte {
	b := append([]byte{byte(len(x.Key))}, x.Key...)
	return append(b, byte(x.Child>>24), byte(x.Child>>16), byte(x.Child>>8), byte(x.Child))
}

// layAsTold lays cells, each of them whatever bytes it has.
func layAsTold(size int, cells ...[]byte) []byte {
	places, free, behind := []byte{2, 0, byte(len(cells) >> 8), byte(len(cells))}, size, []byte{}
	for _, c := range cells {
		free -= len(c)
		places = append(places, byte(free>>8), byte(free))
		behind = append(slices.Clone(c), behind...)
	}
	noughts := make([]byte, max(0, free-len(places)))
	return slices.Concat(places, noughts, behind)[:size]
}

func pageAsTold(l []branch.Entry, size int) []byte {
	var cells [][]byte
	for _, x := range l {
		cells = append(cells, cellAsTold(x))
	}
	return layAsTold(size, cells...)
}

func fillAsTold(l []branch.Entry) int {
	n := 4
	for _, x := range l {
		n += 2 + len(cellAsTold(x))
	}
	return n
}

// rightAsTold tells what Right asks.
func rightAsTold(l []branch.Entry, size int) bool {
	ok := len(l) >= 2 && string(l[0].Key) == "" && size >= 512 && size <= 4096
	for i, x := range l {
		ok = ok && x.Child >= 2
		if i > 0 {
			ok = ok && len(x.Key) > 0 && len(x.Key) < 97 && string(l[i-1].Key) < string(x.Key)
		}
	}
	return ok
}

// getAsTold takes entries by their places alone; that their page is b, laid again, tells that b is one.
func getAsTold(b []byte) ([]branch.Entry, api.Errno) {
	if len(b) < 512 || len(b) > 4096 {
		return nil, api.ErrForm
	}
	var l []branch.Entry
	end := len(b)
	for i := 4; i < min(len(b)-1, 4+2*(int(b[2])*256+int(b[3]))); i += 2 {
		at := int(b[i])*256 + int(b[i+1])
		if at > end || end-at < 5 || int(b[at]) != end-at-5 {
			return nil, api.ErrForm
		}
		n := b[end-4 : end]
		l = append(l, branch.Entry{Key: b[at+1 : end-4], Child: api.Page(n[0])<<24 + api.Page(n[1])<<16 + api.Page(n[2])<<8 + api.Page(n[3])})
		end = at
	}
	if !rightAsTold(l, len(b)) || fillAsTold(l) > len(b) || !bytes.Equal(pageAsTold(l, len(b)), b) {
		return nil, api.ErrForm
	}
	return l, api.OK
}

// findAsTold is the last entry whose Key isn't behind key.
func findAsTold(l []branch.Entry, key string) int {
	at := 0
	for i, x := range l {
		if string(x.Key) <= key {
			at = i
		}
	}
	return at
}

// What the tests are made of.

func to(key string, child api.Page) branch.Entry {
	return branch.Entry{Key: []byte(key), Child: child}
}

// of are entries of such keys, behind an empty one.
func of(keys ...string) []branch.Entry {
	l := []branch.Entry{{Child: 2}}
	for i, k := range keys {
		l = append(l, to(k, api.Page(3+i)))
	}
	return l
}

func some() []branch.Entry {
	return []branch.Entry{to("", 700), to("a", 2), to("ab", math.MaxUint32), to("b", 2), to("\xff\x00", 0x01020304)}
}

func longKey(n int) string { return strings.Repeat("k", n) }

// numbered is the i-th of keys of n bytes that rise.
func numbered(i, n int) string {
	return string([]byte{byte(i >> 8), byte(i)}) + longKey(n-2)
}

// filled are entries that fill so many bytes, 1000 at least.
func filled(n int) []branch.Entry {
	l := of()
	for i := 0; ; i++ {
		left := n - fillAsTold(l)
		if left <= 7+96 {
			return append(l, to(longKey(left-7), 9))
		}
		// What is left at last is a key's length that may be.
		l = append(l, to(numbered(i, min(50, left-7-9-7)), 9))
	}
}

func sameEntries(a, b []branch.Entry) bool {
	return slices.EqualFunc(a, b, func(x, y branch.Entry) bool {
		return bytes.Equal(x.Key, y.Key) && x.Child == y.Child
	})
}

func wantRight(t *testing.T, what string, l []branch.Entry, size int, want bool) {
	t.Helper()
	if got := branch.Right(l, size); got != want {
		t.Errorf("%s, of size %d: Right is %t", what, size, got)
	}
	if rightAsTold(l, size) != want {
		t.Errorf("%s, of size %d: the test itself is wrong", what, size)
	}
}

// wantRefused holds Right, and what Put tells, against an error.
func wantRefused(t *testing.T, what string, l []branch.Entry, size int, e api.Errno) {
	t.Helper()
	wantRight(t, what, l, size, e != api.ErrArg)
	if b, got := branch.Put(l, size); got != e || b != nil {
		t.Errorf("%s, of size %d: Put tells error %d, want %d, and %d bytes", what, size, got, e, len(b))
	}
}

func wantGet(t *testing.T, what string, b []byte, want []branch.Entry, e api.Errno) {
	t.Helper()
	l, got := branch.Get(b)
	if got != e || !sameEntries(l, want) || e != api.OK && l != nil {
		t.Errorf("%s, of %d bytes: Get tells error %d, want %d, %v, want %v", what, len(b), got, e, l, want)
	}
}

func wantNoPage(t *testing.T, what string, b []byte) {
	t.Helper()
	wantGet(t, what, b, nil, api.ErrForm)
	if _, e := getAsTold(b); e != api.ErrForm {
		t.Errorf("%s: the test itself is wrong", what)
	}
}

// wantThere puts entries and gets them again.
func wantThere(t *testing.T, what string, l []branch.Entry, size int) {
	t.Helper()
	wantRight(t, what, l, size, true)
	want := pageAsTold(l, size)
	if b, e := branch.Put(l, size); e != api.OK || !bytes.Equal(b, want) {
		t.Errorf("%s, of size %d: Put tells error %d, %v, want %v", what, size, e, b, want)
	}
	wantGet(t, what, want, l, api.OK)
}

func wantFind(t *testing.T, l []branch.Entry, key string, want int) {
	t.Helper()
	if got := branch.Find(l, []byte(key)); got != want {
		t.Errorf("Find of %q among %d: got %d, want %d", key, len(l), got, want)
	}
	if findAsTold(l, key) != want {
		t.Errorf("Find of %q among %d: the test itself is wrong", key, len(l))
	}
}

// P5.1

func TestP51Fill(t *testing.T) {
	for _, x := range []struct {
		what string
		l    []branch.Entry
		want int
	}{
		{"nil", nil, 4},
		{"nothing", []branch.Entry{}, 4},
		{"one", of(), 11},
		{"two", of("a"), 19},
		{"some", some(), 4 + 7 + 8 + 9 + 8 + 9},
		{"the longest key", of(longKey(96)), 4 + 7 + 103},
		{"what isn't Right", []branch.Entry{to("b", 0), to("a", 1), to(longKey(300), 2)}, 4 + 8 + 8 + 307},
	} {
		if got := branch.Fill(x.l); got != x.want {
			t.Errorf("Fill of %s: got %d, want %d", x.what, got, x.want)
		}
	}
	chance := rand.New(rand.NewPCG(5, 1))
	for range 100 {
		l := someEntries(chance, 20, 4096)
		if got := branch.Fill(l); got != fillAsTold(l) {
			t.Errorf("Fill: got %d, want %d", got, fillAsTold(l))
		}
	}
}

func TestP51RightSizes(t *testing.T) {
	for _, l := range [][]branch.Entry{of("a"), some()} {
		for size := 512; size <= 4096; size++ {
			wantRight(t, "a size that may be", l, size, true)
		}
		for _, size := range []int{511, 4097, 0, 1, 128, 384, -1, -512, 8192, 65536, 512 + 1<<32, math.MaxInt, math.MinInt} {
			wantRight(t, "a size that may not be", l, size, false)
		}
	}
}

func TestP51RightOfFew(t *testing.T) {
	for _, size := range []int{512, 4096} {
		wantRight(t, "nil", nil, size, false)
		wantRight(t, "nothing", []branch.Entry{}, size, false)
		wantRight(t, "one", of(), size, false)
		wantRight(t, "one of a key", []branch.Entry{to("a", 2)}, size, false)
		wantRight(t, "two", of("a"), size, true)
		wantRight(t, "two, the first one's key nil", []branch.Entry{{Key: nil, Child: 2}, to("a", 2)}, size, true)
		wantRight(t, "two, the first one's key of no bytes", []branch.Entry{{Key: []byte{}, Child: 2}, to("a", 2)}, size, true)
	}
}

func TestP51RightKeys(t *testing.T) {
	for _, x := range []struct {
		what string
		keys []string
		want bool
	}{
		{"one byte", []string{"", "a"}, true},
		{"a byte 0", []string{"", "\x00"}, true},
		{"a first key that isn't empty", []string{"a", "b"}, false},
		{"a first key of a byte 0", []string{"\x00", "b", "c"}, false},
		{"another one empty", []string{"", ""}, false},
		{"the third one empty", []string{"", "a", ""}, false},
		{"the first one empty, and the next one", []string{"", "", "a"}, false},
		{"the longest", []string{"", longKey(96)}, true},
		{"too long", []string{"", longKey(97)}, false},
		{"too long, the last one", []string{"", "a", longKey(97)}, false},
		{"too long, in the midst", []string{"", longKey(97), "z"}, false},
		{"much too long", []string{"", longKey(256 + 5)}, false},
		{"rising", []string{"", "a", "b", "c"}, true},
		{"falling", []string{"", "b", "a"}, false},
		{"falling, the last one", []string{"", "a", "c", "b"}, false},
		{"falling, the second one", []string{"", "c", "a", "b"}, false},
		{"the same", []string{"", "a", "a"}, false},
		{"the same, the last ones", []string{"", "a", "b", "b"}, false},
		{"the same, not on end", []string{"", "a", "b", "a"}, false},
		{"longer", []string{"", "a", "a\x00", "a\x00\x00", "a\x01"}, true},
		{"shorter", []string{"", "a\x00", "a"}, false},
		{"longer, and below", []string{"", "aa", "b"}, true},
		{"shorter, and below", []string{"", "b", "aa"}, false},
		{"bytes above 127", []string{"", "\x00", "\x7f", "\x80", "\xff", "\xff\x00", "\xff\xff"}, true},
		{"a byte above 127 ahead of one below", []string{"", "\x80", "\x7f"}, false},
		{"longest ones, the last byte", []string{"", longKey(95) + "j", longKey(96)}, true},
		{"longest ones, the same", []string{"", longKey(96), longKey(96)}, false},
	} {
		var l []branch.Entry
		for _, k := range x.keys {
			l = append(l, to(k, 2))
		}
		wantRight(t, x.what, l, 512, x.want)
		wantRight(t, x.what, l, 4096, x.want)
	}
}

func TestP51RightChildren(t *testing.T) {
	for _, x := range []struct {
		child api.Page
		want  bool
	}{{0, false}, {1, false}, {2, true}, {3, true}, {256, true}, {1 << 31, true}, {math.MaxUint32, true}} {
		for i := range 4 {
			l := of("a", "b", "c")
			l[i].Child = x.child
			wantRight(t, "a Child", l, 512, x.want)
		}
		wantRight(t, "each Child", []branch.Entry{to("", x.child), to("a", x.child)}, 4096, x.want)
	}
	wantRight(t, "children that fall", []branch.Entry{to("", 9), to("a", 8), to("b", 2)}, 512, true)
}

// More entries may be Right than go into a page.
func TestP51RightOfMany(t *testing.T) {
	l := of()
	for i := range 70000 {
		l = append(l, to(string([]byte{byte(i >> 16), byte(i >> 8), byte(i)}), 2))
	}
	wantRight(t, "many", l, 512, true)
	l[70000].Key = l[69999].Key
	wantRight(t, "many, the last ones the same", l, 512, false)
}

// P5.2

func TestP52PutBytes(t *testing.T) {
	b := make([]byte, 512)
	cells := []byte{
		2, 'b', 'c', 1, 2, 3, 4, // the last 7
		0, 0, 0, 2, 188, // the 5 ahead of these
	}
	copy(b[512-5:], cells[7:])
	copy(b[512-12:], cells[:7])
	copy(b, []byte{2, 0, 0, 2, 1, 512 - 5 - 256, 1, 512 - 12 - 256})
	l := []branch.Entry{to("", 700), to("bc", 0x01020304)}
	if got, e := branch.Put(l, 512); e != api.OK || !bytes.Equal(got, b) {
		t.Errorf("Put: error %d, %v", e, got)
	}
	wantThere(t, "two", l, 512)
	wantThere(t, "some", some(), 512)
	wantThere(t, "a key longer than 9 bytes", of("0123456789", "\x80"+longKey(95)), 1024)
}

func TestP52Sizes(t *testing.T) {
	for _, l := range [][]branch.Entry{of("a"), some()} {
		for size := 512; size <= 4096; size++ {
			wantThere(t, "a size that may be", l, size)
		}
		for _, size := range []int{511, 4097, 0, 1, 4, -1, -512, 8192, 65536, math.MaxInt, math.MinInt} {
			wantRefused(t, "a size that may not be", l, size, api.ErrArg)
		}
		for _, size := range []int{100, 511, 4097, 4224, 8192} {
			wantNoPage(t, "a page of another size", pageAsTold(l, size))
		}
	}
	b := pageAsTold(some(), 640)
	wantGet(t, "a page", b, some(), api.OK)
	wantNoPage(t, "a byte less", b[:639])
	wantNoPage(t, "a byte less, ahead", b[1:])
	wantNoPage(t, "a byte more", append(b, 0))
	wantNoPage(t, "half of it", b[:320])
	for n := range 30 {
		wantNoPage(t, "few bytes", pageAsTold(some(), 512)[:n])
	}
	wantNoPage(t, "nil", nil)
}

func TestP52PutRefused(t *testing.T) {
	full := filled(600)
	for _, x := range []struct {
		what string
		l    []branch.Entry
		more []branch.Entry // behind others
	}{
		{"none", nil, nil},
		{"one alone", of(), nil},
		{"a first key that isn't empty", []branch.Entry{to("a", 2), to("b", 2)}, nil},
		{"an empty key", of(""), of()},
		{"a key too long", of(longKey(97)), of("\xff" + longKey(96))[1:]},
		{"the same keys", of("a", "a"), of("z", "z")[1:]},
		{"falling keys", of("b", "a"), of("z", "y")[1:]},
		{"a Child of 0", []branch.Entry{to("", 2), to("a", 0)}, []branch.Entry{to("z", 0)}},
		{"a Child of 1", []branch.Entry{to("", 1), to("a", 2)}, []branch.Entry{to("z", 1)}},
	} {
		wantRefused(t, x.what, x.l, 512, api.ErrArg)
		wantRefused(t, x.what+", of a wrong size", x.l, 511, api.ErrArg)
		if x.more != nil {
			wantRefused(t, x.what+", and too full", append(slices.Clone(full), x.more...), 512, api.ErrArg)
		}
	}
	wantRefused(t, "too full", full, 512, api.ErrFull)
	wantRefused(t, "too full, of a wrong size", full, 511, api.ErrArg)
	wantRefused(t, "too full, of a wrong size", filled(5000), 4097, api.ErrArg)
	full[0].Key = []byte{0}
	wantRefused(t, "too full, and a first key that isn't empty", full, 512, api.ErrArg)
}

func TestP52PutFull(t *testing.T) {
	for size := 512; size <= 4096; size++ {
		l := filled(size)
		if fillAsTold(l) != size {
			t.Fatalf("the test itself is wrong: %d, not %d", fillAsTold(l), size)
		}
		wantThere(t, "just full", l, size)
		wantThere(t, "a byte less", filled(size-1), size)
		wantRefused(t, "a byte more", filled(size+1), size, api.ErrFull)
	}
	wantRefused(t, "much more", filled(20000), 512, api.ErrFull)
}

func TestP52ManyEntries(t *testing.T) {
	var keys []string
	for i := range 430 {
		keys = append(keys, numbered(i, 2))
	}
	for _, n := range []int{1, 2, 254, 255, 256, 257, 430} {
		wantThere(t, "many", of(keys[:n]...), 4096)
	}
}

// Each byte of some pages is changed to each other one.
func TestP52GetAllButOneByte(t *testing.T) {
	for _, l := range [][]branch.Entry{of("a"), some(), of(longKey(95)+"j", longKey(96)), filled(512)} {
		page := pageAsTold(l, 512)
		wantGet(t, "the page", page, l, api.OK)
		forms := 0
		for i := range page {
			for c := range 256 {
				b := slices.Clone(page)
				b[i] = byte(c)
				want, e := getAsTold(b)
				wantGet(t, "all but one byte", b, want, e)
				if e != api.OK {
					forms++
				}
			}
			if t.Failed() {
				t.Fatalf("byte %d of %v", i, page)
			}
		}
		if forms < 10000 {
			t.Errorf("only %d of them are no pages", forms)
		}
	}
}

func TestP52GetNoPage(t *testing.T) {
	first, a, b := cellAsTold(to("", 7)), cellAsTold(to("a", 8)), cellAsTold(to("b", 9))
	lay := func(cells ...[]byte) []byte { return layAsTold(512, cells...) }
	set := func(p []byte, at int, with ...byte) []byte { copy(p[at:], with); return p }
	wantGet(t, "a page", lay(first, a, b), []branch.Entry{to("", 7), to("a", 8), to("b", 9)}, api.OK)
	last := 512 - len(first) - len(a) - len(b)
	for _, x := range []struct {
		what string
		b    []byte
	}{
		{"noughts alone", make([]byte, 512)},
		{"a byte 0", set(lay(first, a), 0, 0)},
		{"a leaf's byte", set(lay(first, a), 0, 1)},
		{"a chain's byte", set(lay(first, a), 0, 3)},
		{"a byte of pages that tell which are free", set(lay(first, a), 0, 4)},
		{"a byte 1 behind it", set(lay(first, a), 1, 1)},
		{"no entry", lay()},
		{"one entry", lay(first)},
		{"one entry of a key", lay(a)},
		{"one entry more than places", set(lay(first, a, b), 3, 4)},
		{"one entry less than places", set(lay(first, a, b), 3, 2)},
		{"256 more entries", set(lay(first, a, b), 2, 1)},
		{"the most entries", set(lay(first, a, b), 2, 255, 255)},
		{"entries without places", set(lay(), 3, 2)},
		{"bytes ahead of the cells", set(lay(first, a, b), last-1, 1)},
		{"bytes behind the places", set(lay(first, a, b), 10, 0, 1)},
		{"a byte in the midst", set(lay(first, a, b), 256, 9)},
		{"bytes behind the cells", slices.Concat(lay(first, a)[:300], lay(first, a)[301:], []byte{0})},
		{"a place twice", set(lay(first, a), 6, lay(first, a)[4:6]...)},
		{"a place at the end", set(lay(first, a), 4, 2, 0)},
		{"a place behind the end", set(lay(first, a), 4, 2, 1)},
		{"the last place", set(lay(first, a), 6, 255, 255)},
		{"the first place", set(lay(first, a), 6, 0, 0)},
		{"a first key that isn't empty", lay(a, b)},
		{"falling keys", lay(first, b, a)},
		{"the same keys", lay(first, a, a)},
		{"an empty key twice", lay(first, first)},
		{"an empty key last", lay(a, first)},
		{"a key too long", lay(first, cellAsTold(to(longKey(97), 2)))},
		{"a key longer than the cell", lay(first, []byte{9, 'a', 0, 0, 0, 2})},
		{"a key up to the cell's end", lay(first, []byte{5, 'a', 0, 0, 0, 2})},
		{"a key, and nothing", lay(first, []byte{1, 'a'})},
		{"a key shorter than the cell", lay(first, []byte{1, 'a', 0, 0, 0, 2, 0})},
		{"a cell of no bytes", lay(first, nil)},
		{"a cell of no bytes among others", lay(first, nil, b)},
		{"a cell of no bytes first", lay(nil, a, b)},
		{"a Child cut", lay(first, []byte{1, 'a', 0, 0, 2})},
		{"a Child of 0", lay(first, cellAsTold(to("a", 0)))},
		{"a Child of 1", lay(first, cellAsTold(to("a", 1)))},
		{"a first Child of 0", lay(cellAsTold(to("", 0)), a)},
		{"a first Child of 1", lay(cellAsTold(to("", 1)), a)},
	} {
		wantNoPage(t, x.what, x.b)
	}
	wantGet(t, "a Child of 2", lay(first, cellAsTold(to("a", 2))), []branch.Entry{to("", 7), to("a", 2)}, api.OK)
}

// Each kind's pages are none of the other one, even if there is nothing in them.
func TestP52GetOtherKinds(t *testing.T) {
	for _, l := range [][]leaf.Entry{nil, {{Key: []byte("a"), Value: []byte("b")}}, {{Key: []byte("a")}, {Key: []byte("b"), Long: 2, First: 2}}} {
		b, e := leaf.Put(l, 512)
		if e != api.OK {
			t.Fatal(e)
		}
		wantNoPage(t, "a leaf's page", b)
		b[0] = 2
		wantNoPage(t, "a leaf's page, of a branch's byte", b)
	}
	b, _ := branch.Put(some(), 512)
	if _, e := leaf.Get(b); e != api.ErrForm {
		t.Errorf("a leaf's Get of a branch's page: error %d", e)
	}
}

// The last cell begins with the last byte of its own place, which tells how long its key is as well.
func TestP52GetACellAmongPlaces(t *testing.T) {
	l := append(of(numbered(0, 90), numbered(1, 90), numbered(2, 90), numbered(3, 90), numbered(4, 83)), to(longKey(17), 9))
	if fillAsTold(l) != 513 {
		t.Fatalf("the test itself is wrong: %d", fillAsTold(l))
	}
	wantRefused(t, "a byte too much", l, 512, api.ErrFull)
	b := make([]byte, 512)
	places, end := []byte{2, 0, 0, byte(len(l))}, 512
	for _, x := range l {
		end -= len(cellAsTold(x))
		places = append(places, byte(end>>8), byte(end))
		copy(b[end:], cellAsTold(x))
	}
	if end != len(places)-1 || places[end] != b[end] {
		t.Fatalf("the test itself is wrong: %d, %d", end, len(places))
	}
	copy(b, places)
	wantNoPage(t, "a cell among places", b)
	l[1].Key = l[1].Key[:89]
	wantThere(t, "a cell just behind the places", l, 512)
}

// Bytes by chance, and pages of which some bytes are others.
func TestP52GetAnyBytes(t *testing.T) {
	chance := rand.New(rand.NewPCG(5, 2))
	pages := 0
	for i := range 30000 {
		size := 512 + chance.IntN(3585)
		b := pageAsTold(someEntries(chance, 1+chance.IntN(12), size), size)
		for range chance.IntN(4) {
			k := chance.IntN(len(b))
			if chance.IntN(3) > 0 {
				k = chance.IntN(40)
			}
			b[k] += byte(chance.IntN(5) - 2)
		}
		if i%10 == 0 {
			b = append([]byte{2, 0, 0}, someBytes(chance, size)...)
		}
		want, e := getAsTold(b)
		wantGet(t, "any bytes", b, want, e)
		if e == api.OK {
			pages++
			wantThere(t, "what is got", want, size)
		}
		if t.Failed() {
			return
		}
	}
	if pages < 5000 || pages > 25000 {
		t.Errorf("%d of them are pages", pages)
	}
}

func TestP52PutKeepsNothing(t *testing.T) {
	l := some()
	want := pageAsTold(l, 512)
	b, _ := branch.Put(l, 512)
	other, _ := branch.Put(l, 512)
	branch.Right(l, 512)
	branch.Fill(l)
	branch.Find(l, []byte("b"))
	if !sameEntries(l, some()) {
		t.Error("what is handed in is changed")
	}
	for i := range l {
		clear(l[i].Key)
		l[i].Child = 9
	}
	if !bytes.Equal(b, want) {
		t.Error("a page changes with what was handed in")
	}
	clear(b)
	if !bytes.Equal(other, want) {
		t.Error("two pages share bytes")
	}
}

func TestP52GetIsNewMemory(t *testing.T) {
	page := pageAsTold(some(), 512)
	b := slices.Clone(page)
	first, _ := branch.Get(b)
	second, _ := branch.Get(b)
	for i := range first {
		// Behind a key there is nothing that anybody has.
		_ = append(first[i].Key, bytes.Repeat([]byte{9}, 200)...)
		_ = append(first[i].Key[:len(first[i].Key):cap(first[i].Key)], 9)
	}
	_ = append(first, to("zz", 2))
	if !sameEntries(first, some()) || !bytes.Equal(b, page) {
		t.Error("entries share bytes with one another, or with the page")
	}
	clear(b)
	if !sameEntries(first, some()) {
		t.Error("entries change with the page")
	}
	for i := range first {
		for k := range first[i].Key {
			first[i].Key[k] = 77
		}
		first[i].Child = 78
		if !sameEntries(first[i+1:], some()[i+1:]) {
			t.Error("entries change with one ahead")
		}
	}
	if !sameEntries(second, some()) {
		t.Error("what was got twice is the same memory")
	}
}

func TestP52Example(t *testing.T) {
	wantFind(t, of("b", "c"), "b", 1)
}

func TestP52Find(t *testing.T) {
	for _, x := range []struct {
		key  string
		want int
	}{
		{"", 0}, {"\x00", 0}, {"Z", 0}, {"`\xff", 0}, {"a", 1}, {"a\x00", 1}, {"aa\xff", 1}, {"ab", 2}, {"ab\x00", 2}, {"az", 2},
		{"b", 3}, {"ba", 3}, {"c", 3}, {"\x7f", 3}, {"\x80", 3}, {"\xff", 3}, {"\xff\x00", 4}, {"\xff\x00\x00", 4},
		{"\xff\xff", 4}, {longKey(500), 3}, {"\xff" + longKey(500), 4},
	} {
		wantFind(t, some(), x.key, x.want)
	}
	if at := branch.Find(some(), nil); at != 0 {
		t.Errorf("Find of nil: %d", at)
	}
	wantFind(t, of("b"), "a", 0)
	wantFind(t, of("b"), "b", 1)
	wantFind(t, of("b"), "c", 1)
}

func TestP52FindAmongMany(t *testing.T) {
	chance := rand.New(rand.NewPCG(5, 3))
	for n := range 70 {
		l := someEntries(chance, n, 4096)
		for _, x := range l {
			k := string(x.Key)
			keys := []string{k, k + "\x00", k + "\xff", string(someBytes(chance, chance.IntN(4)))}
			if k != "" {
				keys = append(keys, k[:len(k)-1], k[:len(k)-1]+string([]byte{k[len(k)-1] + 1}))
			}
			for _, key := range keys {
				wantFind(t, l, key, findAsTold(l, key))
			}
		}
	}
}

// Of entries that aren't Right there is some answer.
func TestP52FindEnds(t *testing.T) {
	for _, l := range [][]branch.Entry{nil, {}, of(), {to("b", 2)}, {to("c", 0), to("a", 1), to("b", 2), to("a", 3), {}}} {
		for _, key := range []string{"", "a", "b", "c", "d"} {
			branch.Find(l, []byte(key))
		}
		branch.Find(l, nil)
	}
}

// P5.3

func someBytes(chance *rand.Rand, n int) []byte {
	b := make([]byte, n)
	for i := range b {
		b[i] = byte(chance.Uint32())
	}
	return b
}

// someEntries are entries that are Right, two at least, and no more than go into a page.
func someEntries(chance *rand.Rand, n, size int) []branch.Entry {
	l := []branch.Entry{{}, to("\xff\xff\xff\xff", 0)}
	for range n {
		x := branch.Entry{Key: someBytes(chance, 1+chance.IntN(3))}
		if chance.IntN(20) == 0 {
			x.Key = someBytes(chance, 1+chance.IntN(96))
		}
		l = append(l, x)
	}
	slices.SortFunc(l, func(x, y branch.Entry) int { return bytes.Compare(x.Key, y.Key) })
	l = slices.CompactFunc(l, func(x, y branch.Entry) bool { return bytes.Equal(x.Key, y.Key) })
	for fillAsTold(l) > size {
		l = l[:len(l)-1]
	}
	for i := range l {
		l[i].Child = 2 + api.Page(chance.IntN(1<<chance.IntN(32)))
	}
	return l
}

func TestP53WhatIsPutIsGot(t *testing.T) {
	chance := rand.New(rand.NewPCG(5, 4))
	for range 3000 {
		size := 512 + chance.IntN(3585)
		l := someEntries(chance, chance.IntN(100), size)
		b, e := branch.Put(l, size)
		if e != api.OK || len(b) != size {
			t.Fatalf("Put of size %d: error %d, %d bytes", size, e, len(b))
		}
		got, e := branch.Get(b)
		if e != api.OK || !sameEntries(got, l) {
			t.Fatalf("Get of what was put: error %d, %v, want %v", e, got, l)
		}
		again, e := branch.Put(got, size)
		if e != api.OK || !bytes.Equal(again, b) {
			t.Fatalf("Put of what was got: error %d", e)
		}
	}
}

// Of each size: the longest keys that may be.
func TestP53FourAlwaysGoIn(t *testing.T) {
	l := []branch.Entry{to("", math.MaxUint32), to(numbered(0, 96), 2), to(numbered(1, 96), 3), to(numbered(2, 96), 4)}
	if branch.Fill(l) != 4+7+3*103 {
		t.Error(branch.Fill(l))
	}
	for size := 512; size <= 4096; size++ {
		wantThere(t, "four of the longest keys", l, size)
	}
}
