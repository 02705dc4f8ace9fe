package leaf_test

import (
	"bytes"
	"math"
	"math/rand/v2"
	"slices"
	"strings"
	"testing"

	"rubricator/api"
	"rubricator/leaf"
)

// The words of the chapter, told again, byte by byte.

// cellAsTold is an entry's cell.
func cellAsTold(x leaf.Entry) []byte {
	b := append([]byte{byte(len(x.Key))}, x.Key...)
	if x.First > 0 {
		b = append(b, 1)
		b = append(b, byte(x.Long>>24), byte(x.Long>>16), byte(x.Long>>8), byte(x.Long))
		return append(b, byte(x.First>>24), byte(x.First>>16), byte(x.First>>8), byte(x.First))
	}
	b = append(b, 0, byte(len(x.Value)>>8), byte(len(x.Value)))
	return append(b, x.Value...)
}

// layAsTold lays cells, each of them whatever bytes it has.
func layAsTold(cells [][]byte, size int) []byte {
	b := make([]byte, size)
	b[0], b[1], b[2], b[3] = 1, 0, byte(len(cells)>>8), byte(len(cells))
	end := size
	for i, c := range cells {
		end -= len(c)
		copy(b[end:], c)
		b[4+2*i], b[5+2*i] = byte(end>>8), byte(end)
	}
	return b
}

func pageAsTold(l []leaf.Entry, size int) []byte {
	var cells [][]byte
	for _, x := range l {
		cells = append(cells, cellAsTold(x))
	}
	return layAsTold(cells, size)
}

func fillAsTold(l []leaf.Entry) int {
	n := 4
	for _, x := range l {
		n += 2 + len(cellAsTold(x))
	}
	return n
}

// rightAsTold tells what Right asks.
func rightAsTold(l []leaf.Entry, size int) bool {
	if size < 512 || size > 4096 {
		return false
	}
	for i, x := range l {
		valueIsHere := x.First == 0 && x.Long == 0
		valueIsFar := x.First > 0 && len(x.Value) == 0 && x.Long > 0 && x.Long <= 32768
		switch {
		case len(x.Key) == 0, len(x.Key) > 96, !valueIsHere && !valueIsFar:
			return false
		case i > 0 && strings.Compare(string(l[i-1].Key), string(x.Key)) >= 0:
			return false
		case 4*(len(cellAsTold(x))+2) > size-4:
			return false
		}
	}
	return true
}

// takenAsTold are entries whose page might be b, by its places alone; laid again they tell whether it is.
func takenAsTold(b []byte) []leaf.Entry {
	var l []leaf.Entry
	end := len(b)
	for i := range int(b[2])*256 + int(b[3]) {
		if 5+2*i >= len(b) {
			return nil
		}
		at := int(b[4+2*i])*256 + int(b[5+2*i])
		if at > end {
			return nil
		}
		c := b[at:end]
		end = at
		if len(c) < 4 || len(c) < int(c[0])+4 {
			return nil
		}
		x := leaf.Entry{Key: c[1 : 1+int(c[0])]}
		if v := c[1+int(c[0]):]; v[0] == 0 {
			x.Value = v[3:]
		} else if len(v) == 9 {
			x.Long = int(v[1])<<24 + int(v[2])<<16 + int(v[3])<<8 + int(v[4])
			x.First = api.Page(v[5])<<24 + api.Page(v[6])<<16 + api.Page(v[7])<<8 + api.Page(v[8])
		}
		l = append(l, x)
	}
	return l
}

func getAsTold(b []byte) ([]leaf.Entry, api.Errno) {
	if len(b) < 512 || len(b) > 4096 {
		return nil, api.ErrForm
	}
	l := takenAsTold(b)
	if !rightAsTold(l, len(b)) || fillAsTold(l) > len(b) || !bytes.Equal(pageAsTold(l, len(b)), b) {
		return nil, api.ErrForm
	}
	return l, api.OK
}

// What the tests are made of.

func here(key, value string) leaf.Entry {
	return leaf.Entry{Key: []byte(key), Value: []byte(value)}
}

func far(key string, long int, first api.Page) leaf.Entry {
	return leaf.Entry{Key: []byte(key), Long: long, First: first}
}

// hereOf is an entry whose cell has n bytes.
func hereOf(key string, n int) leaf.Entry { return here(key, strings.Repeat("v", n-4-len(key))) }

func some() []leaf.Entry {
	return []leaf.Entry{here("a", "1"), far("ab", 700, 258), here("b", ""), here("\xff", "\x00\x01")}
}

func longKey(n int) string { return strings.Repeat("k", n) }

func sameEntries(a, b []leaf.Entry) bool {
	return slices.EqualFunc(a, b, func(x, y leaf.Entry) bool {
		return bytes.Equal(x.Key, y.Key) && bytes.Equal(x.Value, y.Value) && x.Long == y.Long && x.First == y.First
	})
}

func copied(l []leaf.Entry) []leaf.Entry {
	var out []leaf.Entry
	for _, x := range l {
		out = append(out, leaf.Entry{Key: slices.Clone(x.Key), Value: slices.Clone(x.Value), Long: x.Long, First: x.First})
	}
	return out
}

func wantNum(t *testing.T, what string, got, want int) {
	t.Helper()
	if got != want {
		t.Errorf("%s: got %d, want %d", what, got, want)
	}
}

func wantRight(t *testing.T, what string, l []leaf.Entry, size int, want bool) {
	t.Helper()
	if got := leaf.Right(l, size); got != want {
		t.Errorf("%s, of size %d: Right is %t", what, size, got)
	}
	if rightAsTold(l, size) != want {
		t.Errorf("%s, of size %d: the test itself is wrong", what, size)
	}
}

func wantPut(t *testing.T, what string, l []leaf.Entry, size int, want []byte, e api.Errno) {
	t.Helper()
	b, got := leaf.Put(l, size)
	if got != e || !bytes.Equal(b, want) || e != api.OK && b != nil {
		t.Errorf("%s, of size %d: Put tells error %d, want %d, %d bytes, want %d", what, size, got, e, len(b), len(want))
	}
}

func wantGet(t *testing.T, what string, b []byte, want []leaf.Entry, e api.Errno) {
	t.Helper()
	l, got := leaf.Get(b)
	if got != e || !sameEntries(l, want) || e != api.OK && l != nil {
		t.Errorf("%s, of %d bytes: Get tells error %d, want %d, %v, want %v", what, len(b), got, e, l, want)
	}
}

// wantThere puts entries and gets them again.
func wantThere(t *testing.T, what string, l []leaf.Entry, size int) {
	t.Helper()
	wantRight(t, what, l, size, true)
	want := pageAsTold(l, size)
	wantPut(t, what, l, size, want, api.OK)
	wantGet(t, what, want, l, api.OK)
}

// wantFind holds Find against the keys, one by one.
func wantFind(t *testing.T, l []leaf.Entry, key string) {
	t.Helper()
	at, is := 0, false
	for _, x := range l {
		if string(x.Key) < key {
			at++
		}
		is = is || string(x.Key) == key
	}
	if got, ok := leaf.Find(l, []byte(key)); got != at || ok != is {
		t.Errorf("Find of %q among %d: got %d, %t, want %d, %t", key, len(l), got, ok, at, is)
	}
}

// P4.1

func TestP41Example(t *testing.T) {
	wantNum(t, "Most of 512", leaf.Most(512), 125)
}

func TestP41Most(t *testing.T) {
	for _, x := range []struct{ size, want int }{
		{513, 125}, {514, 125}, {515, 125}, {516, 126}, {640, 157}, {1024, 253}, {4095, 1020}, {4096, 1021},
		{511, 124}, {4097, 1021}, {4, -2}, {12, 0}, {8, -1}, {0, -3},
		{math.MaxInt, math.MaxInt/4 - 3}, {math.MinInt, math.MinInt/4 - 3},
	} {
		wantNum(t, "Most", leaf.Most(x.size), x.want)
	}
	for size := -1000; size <= 5000; size++ {
		if m := 4 * (leaf.Most(size) + 2); m > size-4 || m <= size-8 {
			t.Errorf("Most of %d: %d", size, leaf.Most(size))
		}
	}
}

func TestP41Cell(t *testing.T) {
	for _, x := range []struct {
		what string
		x    leaf.Entry
		want int
	}{
		{"nothing", leaf.Entry{}, 4},
		{"a key", here("a", ""), 5},
		{"a value", here("", "abc"), 7},
		{"both", here("ab", "abc"), 9},
		{"the longest key", here(longKey(96), "abc"), 103},
		{"a long key", here(longKey(97), ""), 101},
		{"a key of two bytes' number", here(longKey(300), ""), 304},
		{"a long value", hereOf("k", 5000), 5000},
		{"far", far("a", 1, 1), 11},
		{"far, without a key", far("", 1, 1), 10},
		{"far, of the greatest numbers", far("ab", math.MaxUint32, math.MaxUint32), 12},
		{"far, of the longest key", far(longKey(96), 32768, 2), 106},
		{"far, with a Value", leaf.Entry{Key: []byte("a"), Value: []byte("v"), Long: 1, First: 1}, 11},
	} {
		wantNum(t, x.what, leaf.Cell(x.x), x.want)
		if len(x.x.Key) < 256 {
			wantNum(t, x.what+", as told", len(cellAsTold(x.x)), x.want)
		}
	}
}

func TestP41Fill(t *testing.T) {
	wantNum(t, "Fill of nil", leaf.Fill(nil), 4)
	wantNum(t, "Fill of nothing", leaf.Fill([]leaf.Entry{}), 4)
	wantNum(t, "Fill of one", leaf.Fill([]leaf.Entry{here("a", "b")}), 12)
	wantNum(t, "Fill of a far one", leaf.Fill([]leaf.Entry{far("a", 1, 1)}), 17)
	wantNum(t, "Fill of some", leaf.Fill(some()), 4+8+14+7+9)
	wantNum(t, "Fill of what isn't Right", leaf.Fill([]leaf.Entry{here("b", ""), here("a", ""), {}}), 4+7+7+6)
	chance := rand.New(rand.NewPCG(4, 1))
	for range 100 {
		l := someEntries(chance, 20, 4096)
		wantNum(t, "Fill", leaf.Fill(l), fillAsTold(l))
	}
}

func TestP41RightSizes(t *testing.T) {
	for _, l := range [][]leaf.Entry{nil, {}, {here("a", "1")}, some()} {
		for _, size := range []int{512, 513, 640, 1000, 4095, 4096} {
			wantRight(t, "a size that may be", l, size, true)
		}
		for _, size := range []int{511, 4097, 0, 1, 128, 384, -1, -512, 8192, 65536, 512 + 1<<32, math.MaxInt, math.MinInt} {
			wantRight(t, "a size that may not be", l, size, false)
		}
	}
}

func TestP41RightKeys(t *testing.T) {
	for _, x := range []struct {
		what string
		keys []string
		want bool
	}{
		{"one byte", []string{"a"}, true},
		{"a byte 0", []string{"\x00"}, true},
		{"empty", []string{""}, false},
		{"empty, ahead of others", []string{"", "a"}, false},
		{"the longest", []string{longKey(96)}, true},
		{"too long", []string{longKey(97)}, false},
		{"too long, the last one", []string{"a", longKey(97)}, false},
		{"much too long", []string{longKey(256 + 5)}, false},
		{"rising", []string{"a", "b", "c"}, true},
		{"falling", []string{"b", "a"}, false},
		{"falling, the last one", []string{"a", "c", "b"}, false},
		{"falling, the first one", []string{"c", "a", "b"}, false},
		{"the same", []string{"a", "a"}, false},
		{"the same, the last ones", []string{"a", "b", "b"}, false},
		{"the same, not on end", []string{"a", "b", "a"}, false},
		{"longer", []string{"a", "a\x00", "a\x00\x00", "a\x01"}, true},
		{"shorter", []string{"a\x00", "a"}, false},
		{"longer, and below", []string{"aa", "b"}, true},
		{"shorter, and below", []string{"b", "aa"}, false},
		{"bytes above 127", []string{"\x00", "\x01", "\x7f", "\x80", "\xff", "\xff\x00", "\xff\xff"}, true},
		{"a byte above 127 ahead of one below", []string{"\x80", "\x7f"}, false},
		{"longest ones, the last byte", []string{longKey(95) + "j", longKey(95) + "k"}, true},
		{"longest ones, the same", []string{longKey(96), longKey(96)}, false},
	} {
		var l, f []leaf.Entry
		for _, k := range x.keys {
			l = append(l, here(k, "v"))
			f = append(f, far(k, 1, 1))
		}
		wantRight(t, x.what, l, 512, x.want)
		wantRight(t, x.what+", far", f, 4096, x.want)
	}
}

func TestP41RightValues(t *testing.T) {
	for _, x := range []struct {
		what string
		x    leaf.Entry
		want bool
	}{
		{"here", here("k", "v"), true},
		{"here, empty", here("k", ""), true},
		{"here, nil", leaf.Entry{Key: []byte("k")}, true},
		{"here, with Long", leaf.Entry{Key: []byte("k"), Value: []byte("v"), Long: 1}, false},
		{"here, empty, with Long", far("k", 1, 0), false},
		{"here, with Long below 0", far("k", -1, 0), false},
		{"far, the shortest", far("k", 1, 1), true},
		{"far, the longest", far("k", 32768, 1), true},
		{"far, of the last page", far("k", 7, math.MaxUint32), true},
		{"far, of no bytes", far("k", 0, 1), false},
		{"far, below 0", far("k", -1, 1), false},
		{"far, too long", far("k", 32769, 1), false},
		{"far, of the least", far("k", math.MinInt, 1), false},
		{"far, of the most", far("k", math.MaxInt, 1), false},
		{"far, of four bytes' rest 1", far("k", 1+1<<32, 1), false},
		{"far, with a Value", leaf.Entry{Key: []byte("k"), Value: []byte("v"), Long: 1, First: 1}, false},
		{"far, with a Value, of no bytes", leaf.Entry{Key: []byte("k"), Value: []byte("v"), First: 1}, false},
		{"far, with an empty Value", leaf.Entry{Key: []byte("k"), Value: []byte{}, Long: 1, First: 1}, true},
	} {
		for _, size := range []int{512, 4096} {
			wantRight(t, x.what, []leaf.Entry{x.x}, size, x.want)
			wantRight(t, x.what+", among others", []leaf.Entry{here("a", ""), x.x, far("z", 1, 1)}, size, x.want)
		}
	}
}

func TestP41RightCells(t *testing.T) {
	for size := 512; size <= 4096; size++ {
		most := (size-4)/4 - 2
		wantRight(t, "a cell at the most", []leaf.Entry{hereOf("k", most)}, size, true)
		wantRight(t, "a cell above it", []leaf.Entry{hereOf("k", most+1)}, size, false)
	}
	wantRight(t, "the longest key, at the most", []leaf.Entry{hereOf(longKey(96), 125)}, 512, true)
	wantRight(t, "the longest key, above it", []leaf.Entry{hereOf(longKey(96), 126)}, 512, false)
	wantRight(t, "the last one above it", []leaf.Entry{hereOf("a", 125), hereOf("b", 125), hereOf("c", 126)}, 512, false)
	wantRight(t, "a value of two bytes' rest 1", []leaf.Entry{here("k", strings.Repeat("v", 65537))}, 4096, false)
	wantRight(t, "the longest key, far", []leaf.Entry{far(longKey(96), 32768, 9)}, 512, true)
}

// More entries may be Right than go into a page.
func TestP41RightOfMany(t *testing.T) {
	var l []leaf.Entry
	for i := range 1000 {
		l = append(l, hereOf(string([]byte{byte(i >> 8), byte(i)}), 125))
	}
	wantRight(t, "many", l, 512, true)
	l[999].Key = l[998].Key
	wantRight(t, "many, the last ones the same", l, 512, false)
}

// P4.2

func TestP42PutBytes(t *testing.T) {
	b := make([]byte, 512)
	b[0] = 1
	wantPut(t, "nil", nil, 512, b, api.OK)
	wantPut(t, "no entries", []leaf.Entry{}, 512, b, api.OK)
	cells := []byte{
		1, 'b', 1, 0, 0, 128, 0, 1, 2, 3, 4, // the last 11
		2, 'a', 'b', 0, 0, 3, 'x', 'y', 'z', // the 9 ahead of these
	}
	copy(b[512-9:], cells[11:])
	copy(b[512-20:], cells[:11])
	copy(b, []byte{1, 0, 0, 2, 1, 512 - 9 - 256, 1, 512 - 20 - 256})
	wantPut(t, "two", []leaf.Entry{here("ab", "xyz"), far("b", 32768, 0x01020304)}, 512, b, api.OK)
	long := make([]byte, 4096)
	copy(long, []byte{1, 0, 0, 1, 12, 3, 0, 0})
	copy(long[12*256+3:], []byte{1, 'k', 0, 3, 248})
	copy(long[12*256+8:], bytes.Repeat([]byte{7}, 1016))
	wantPut(t, "a value of more than 255 bytes", []leaf.Entry{here("k", strings.Repeat("\x07", 1016))}, 4096, long, api.OK)
}

func TestP42PutSizes(t *testing.T) {
	for _, l := range [][]leaf.Entry{nil, some()} {
		for size := 512; size <= 4096; size++ {
			b, e := leaf.Put(l, size)
			if e != api.OK || !bytes.Equal(b, pageAsTold(l, size)) {
				t.Errorf("Put of size %d: error %d, %d bytes", size, e, len(b))
			}
		}
		for _, size := range []int{511, 4097, 0, 1, 4, -1, -512, 65536, math.MaxInt, math.MinInt} {
			wantPut(t, "a size that may not be", l, size, nil, api.ErrArg)
		}
	}
}

func TestP42PutRefused(t *testing.T) {
	for _, x := range []struct {
		what string
		l    []leaf.Entry
	}{
		{"an empty key", []leaf.Entry{here("", "v")}},
		{"a key too long", []leaf.Entry{here(longKey(97), "")}},
		{"the same keys", []leaf.Entry{here("a", ""), here("a", "")}},
		{"falling keys", []leaf.Entry{here("b", ""), here("a", "")}},
		{"here, with Long", []leaf.Entry{far("a", 5, 0)}},
		{"far, too long", []leaf.Entry{far("a", 32769, 3)}},
		{"far, of no bytes", []leaf.Entry{far("a", 0, 3)}},
		{"far, with a Value", []leaf.Entry{{Key: []byte("a"), Value: []byte("v"), Long: 1, First: 3}}},
		{"a cell above the most", []leaf.Entry{hereOf("a", 126)}},
	} {
		wantPut(t, x.what, x.l, 512, nil, api.ErrArg)
		full := []leaf.Entry{hereOf("\x01", 125), hereOf("\x02", 125), hereOf("\x03", 125), hereOf("\x04", 125), hereOf("\x05", 125)}
		wantPut(t, x.what+", and too full", append(full, x.l...), 512, nil, api.ErrArg)
		wantPut(t, x.what+", of a wrong size", x.l, 511, nil, api.ErrArg)
	}
	wantPut(t, "too full, of a wrong size", many(2000), 4097, nil, api.ErrArg)
	wantPut(t, "too full, of a wrong size", many(600), 511, nil, api.ErrArg)
}

// many are entries that take 7 bytes of a page each, from the 255th on 9.
func many(n int) []leaf.Entry {
	var l []leaf.Entry
	for i := range n {
		key := []byte{byte(i)}
		if i >= 254 {
			key = []byte{254, byte(i / 256), byte(i)}
		}
		l = append(l, leaf.Entry{Key: key})
	}
	return l
}

func TestP42PutFull(t *testing.T) {
	four := []leaf.Entry{hereOf("a", 125), hereOf("b", 125), hereOf("c", 125), hereOf("d", 125)}
	wantNum(t, "Fill of four", leaf.Fill(four), 512)
	wantThere(t, "four that just fill it", four, 512)
	for size := 513; size <= 518; size++ {
		wantThere(t, "four that nearly fill it", four, size)
		wantPut(t, "five of them", append(slices.Clone(four), here("e", "")), size, nil, api.ErrFull)
	}
	wantThere(t, "room for one more, just", append(slices.Clone(four), here("e", "")), 519)
	wantPut(t, "one byte more", append(slices.Clone(four), here("e", "v")), 519, nil, api.ErrFull)
	wantPut(t, "much more", many(5000), 512, nil, api.ErrFull)
	for size := 512; size <= 4096; size += 7 {
		l, left := many(254), size-4
		at := 0
		for ; at < 253 && left >= 7+7+9; at++ {
			left -= 7
		}
		l = l[:at]
		for k := byte(1); left > 400; k++ {
			l = append(l, hereOf(string([]byte{254, k}), 100))
			left -= 102
		}
		for k := byte(1); left > 120; k++ {
			l = append(l, hereOf(string([]byte{254, 254, k}), 50))
			left -= 52
		}
		wantThere(t, "nearly full", l, size)
		wantThere(t, "just full", append(slices.Clone(l), hereOf("\xff", left-2)), size)
		wantPut(t, "one byte more", append(slices.Clone(l), hereOf("\xff", left-1)), size, nil, api.ErrFull)
	}
}

func TestP42ManyEntries(t *testing.T) {
	l := many(560)
	for leaf.Fill(l) > 4096 {
		l = l[:len(l)-1]
	}
	if len(l) < 500 {
		t.Fatal(len(l))
	}
	wantThere(t, "more than 255 entries", l, 4096)
	wantThere(t, "255 entries", l[:255], 4096)
	wantThere(t, "256 entries", l[:256], 4096)
}

func TestP42GetSizes(t *testing.T) {
	for _, l := range [][]leaf.Entry{nil, some()} {
		for size := 512; size <= 4096; size++ {
			got, e := leaf.Get(pageAsTold(l, size))
			if e != api.OK || !sameEntries(got, l) {
				t.Errorf("Get of %d bytes: error %d, %d entries", size, e, len(got))
			}
		}
		for _, size := range []int{100, 511, 4097, 4224, 8192} {
			wantGet(t, "a page of another size", pageAsTold(l, size), nil, api.ErrForm)
		}
	}
	b := pageAsTold(some(), 640)
	wantGet(t, "a byte less", b[:639], nil, api.ErrForm)
	wantGet(t, "a byte less, ahead", b[1:], nil, api.ErrForm)
	wantGet(t, "a byte more", append(b, 0), nil, api.ErrForm)
	wantGet(t, "a page of no entries has no cell that ends it", pageAsTold(nil, 640)[:639], nil, api.OK)
	wantGet(t, "nil", nil, nil, api.ErrForm)
	wantGet(t, "nothing", []byte{}, nil, api.ErrForm)
	for n := range 30 {
		b := make([]byte, n)
		if n > 0 {
			b[0] = 1
		}
		wantGet(t, "few bytes", b, nil, api.ErrForm)
	}
}

// Each byte of some pages is changed to each other one.
func TestP42GetAllButOneByte(t *testing.T) {
	four := []leaf.Entry{hereOf("a", 125), far("b", 700, 258), far("c\x00", 32768, 1), hereOf("d", 125)}
	for _, l := range [][]leaf.Entry{nil, some(), four, {far("k", 1, 1)}, {hereOf(longKey(96), 125)}} {
		page := pageAsTold(l, 512)
		wantGet(t, "the page", page, l, api.OK)
		forms := 0
		for i := range page {
			for c := range 256 {
				b := slices.Clone(page)
				b[i] = byte(c)
				want, e := getAsTold(b)
				wantGet(t, "all but one byte", b, want, e)
				if e != api.OK {
					forms++
				}
			}
			if t.Failed() {
				t.Fatalf("byte %d of %v", i, page)
			}
		}
		if forms < 100*255 {
			t.Errorf("only %d of them are no pages", forms)
		}
	}
}

func TestP42GetNoPage(t *testing.T) {
	a, b, c := cellAsTold(here("a", "1")), cellAsTold(here("b", "22")), cellAsTold(far("c", 9, 8))
	lay := func(cells ...[]byte) []byte { return layAsTold(cells, 512) }
	set := func(p []byte, at int, with ...byte) []byte { copy(p[at:], with); return p }
	move := func(p []byte, from, to, n int) []byte { copy(p[to:to+n], slices.Clone(p[from:from+n])); return p }
	if l, e := leaf.Get(lay(a, b, c)); e != api.OK || len(l) != 3 {
		t.Fatal(l, e)
	}
	last := 512 - len(a) - len(b) - len(c)
	for _, x := range []struct {
		what string
		b    []byte
	}{
		{"noughts alone", make([]byte, 512)},
		{"a branch's byte", set(lay(a, b), 0, 2)},
		{"a chain's byte", set(lay(a, b), 0, 3)},
		{"a byte 1 behind it", set(lay(a, b), 1, 1)},
		{"one entry more than places", set(lay(a, b, c), 3, 4)},
		{"one entry less than places", set(lay(a, b, c), 3, 2)},
		{"no entry, but a place", set(lay(a), 3, 0)},
		{"256 more entries", set(lay(a, b, c), 2, 1)},
		{"the most entries", set(lay(a, b, c), 2, 255, 255)},
		{"the most entries of none", set(lay(), 2, 255, 255)},
		{"entries without places, and bytes", set(lay(), 2, 0, 1)},
		{"bytes behind the cells", move(lay(a, b, c), last, last-1, 512-last)},
		{"bytes ahead of the cells", set(lay(a, b, c), last-1, 1)},
		{"bytes behind the places", set(lay(a, b, c), 10, 0, 1)},
		{"a byte in the midst", set(lay(a, b, c), 256, 9)},
		{"places the other way round", set(lay(a, b), 4, lay(a, b)[6], lay(a, b)[7], lay(a, b)[4], lay(a, b)[5])},
		{"a place twice", set(lay(a, b), 6, lay(a, b)[4], lay(a, b)[5])},
		{"a place at the end", set(lay(a, b), 4, 2, 0)},
		{"a place behind the end", set(lay(a, b), 4, 2, 1)},
		{"the last place", set(lay(a, b), 4, 255, 255)},
		{"the first place", set(lay(a, b), 6, 0, 0)},
		{"falling keys", lay(b, a)},
		{"the same keys", lay(a, a)},
		{"an empty key", lay(cellAsTold(here("", "v")))},
		{"a key too long", lay(cellAsTold(here(longKey(97), "")))},
		{"a key longer than the cell", lay([]byte{9, 'a', 0, 0, 0})},
		{"a key up to the cell's end", lay([]byte{4, 'a', 0, 0, 0})},
		{"a key, and nothing", lay([]byte{1, 'a'})},
		{"a cell of no bytes", lay(nil)},
		{"a cell of no bytes among others", lay(a, nil, c)},
		{"a value of a byte 2", lay([]byte{1, 'a', 2, 0, 0})},
		{"a far value of a byte 3", lay([]byte{1, 'a', 3, 0, 0, 0, 1, 0, 0, 0, 1})},
		{"a value of a byte 255", lay([]byte{1, 'a', 255, 0, 0})},
		{"a value shorter than told", lay([]byte{1, 'a', 0, 0, 2, 'v'})},
		{"a value longer than told", lay([]byte{1, 'a', 0, 0, 0, 'v'})},
		{"a value of 256 bytes more", lay([]byte{1, 'a', 0, 1, 0})},
		{"a value's number cut", lay([]byte{1, 'a', 0, 0})},
		{"a cell above the most", lay(cellAsTold(hereOf("a", 126)))},
		{"far, of no page", lay([]byte{1, 'a', 1, 0, 0, 0, 1, 0, 0, 0, 0})},
		{"far, of no page, no bytes", lay([]byte{1, 'a', 1, 0, 0, 0, 0, 0, 0, 0, 0})},
		{"far, of no bytes", lay([]byte{1, 'a', 1, 0, 0, 0, 0, 0, 0, 0, 1})},
		{"far, too long", lay([]byte{1, 'a', 1, 0, 0, 128, 1, 0, 0, 0, 1})},
		{"far, much too long", lay([]byte{1, 'a', 1, 255, 255, 255, 255, 0, 0, 0, 1})},
		{"far, cut", lay([]byte{1, 'a', 1, 0, 0, 0, 1, 0, 0, 0})},
		{"far, with a value", lay([]byte{1, 'a', 1, 0, 0, 0, 1, 0, 0, 0, 1, 'v'})},
		{"far, as if here", lay([]byte{1, 'a', 0, 0, 0, 0, 1, 0, 0, 0, 1})},
	} {
		wantGet(t, x.what, x.b, nil, api.ErrForm)
		if _, e := getAsTold(x.b); e != api.ErrForm {
			t.Errorf("%s: the test itself is wrong", x.what)
		}
	}
}

// The last cell begins with the last byte of its own place, which tells how long its key is as well.
func TestP42GetACellAmongPlaces(t *testing.T) {
	l := []leaf.Entry{hereOf("a", 125), hereOf("b", 125), hereOf("c", 119), here("d", ""), hereOf("ebcdefghijklm", 125)}
	wantNum(t, "Fill", fillAsTold(l), 513)
	b := pageAsTold(l, 512)
	if !sameEntries(takenAsTold(b), l) {
		t.Error("the test itself is wrong")
	}
	wantGet(t, "a cell among places", b, nil, api.ErrForm)
	l[2] = hereOf("c", 118)
	wantThere(t, "a cell just behind the places", l, 512)
	b = pageAsTold(l[:4], 512)
	b[3] = 200
	wantGet(t, "places among cells", b, nil, api.ErrForm)
}

// Bytes by chance, and pages of which some bytes are others.
func TestP42GetAnyBytes(t *testing.T) {
	chance := rand.New(rand.NewPCG(4, 2))
	pages := 0
	for i := range 30000 {
		size := 512 + chance.IntN(3585)
		var b []byte
		if i%10 == 0 {
			b = make([]byte, size)
			for k := range b {
				b[k] = byte(chance.Uint32())
			}
			b[0], b[1] = byte(chance.IntN(2)), byte(chance.IntN(2))
		} else {
			b = pageAsTold(someEntries(chance, chance.IntN(12), size), size)
			for range chance.IntN(4) {
				k := chance.IntN(len(b))
				if chance.IntN(3) > 0 {
					k = chance.IntN(40)
				}
				b[k] += byte(chance.IntN(5) - 2)
			}
		}
		want, e := getAsTold(b)
		wantGet(t, "any bytes", b, want, e)
		if e == api.OK {
			pages++
			wantPut(t, "what is got", want, size, b, api.OK)
		}
		if t.Failed() {
			return
		}
	}
	if pages < 5000 {
		t.Errorf("only %d of them are pages", pages)
	}
}

func TestP42PutKeepsNothing(t *testing.T) {
	l := some()
	want := pageAsTold(l, 512)
	b, _ := leaf.Put(l, 512)
	other, _ := leaf.Put(l, 512)
	if !sameEntries(l, some()) {
		t.Error("Put changes what is handed in")
	}
	for i := range l {
		clear(l[i].Key)
		clear(l[i].Value)
		l[i].Long, l[i].First = 9, 9
	}
	if !bytes.Equal(b, want) {
		t.Error("a page changes with what was handed in")
	}
	l = some()
	clear(b)
	if !bytes.Equal(other, want) || !sameEntries(l, some()) {
		t.Error("a page shares bytes with another one, or with what was handed in")
	}
	leaf.Right(l, 512)
	leaf.Fill(l)
	leaf.Find(l, []byte("b"))
	if !sameEntries(l, some()) {
		t.Error("what is handed in is changed")
	}
}

func TestP42GetIsNewMemory(t *testing.T) {
	page := pageAsTold(some(), 512)
	b := slices.Clone(page)
	first, _ := leaf.Get(b)
	second, _ := leaf.Get(b)
	for i := range first {
		// Behind a key or a value there is nothing that anybody has.
		_ = append(first[i].Key, bytes.Repeat([]byte{9}, 200)...)
		_ = append(first[i].Value, bytes.Repeat([]byte{9}, 200)...)
		_ = append(first[i].Key[:len(first[i].Key):cap(first[i].Key)], 9)
		_ = append(first[i].Value[:len(first[i].Value):cap(first[i].Value)], 9)
	}
	_ = append(first, here("zz", "zz"))
	if !sameEntries(first, some()) || !bytes.Equal(b, page) {
		t.Error("entries share bytes with one another, or with the page")
	}
	clear(b)
	if !sameEntries(first, some()) {
		t.Error("entries change with the page")
	}
	for i := range first {
		for k := range first[i].Key {
			first[i].Key[k] = 77
			if want := some()[i].Value; !bytes.Equal(first[i].Value, want) {
				t.Error("a value changes with its key")
			}
		}
		for k := range first[i].Value {
			first[i].Value[k] = 78
		}
		if !sameEntries(first[i+1:], some()[i+1:]) {
			t.Error("entries change with one ahead")
		}
		first[i].Long, first[i].First = 79, 80
	}
	if !sameEntries(second, some()) {
		t.Error("what was got twice is the same memory")
	}
}

func TestP42GetFields(t *testing.T) {
	l, e := leaf.Get(pageAsTold([]leaf.Entry{here("a", "xyz"), far("b", 32768, math.MaxUint32), here("c", "")}, 512))
	if e != api.OK || len(l) != 3 {
		t.Fatal(l, e)
	}
	if string(l[0].Key) != "a" || string(l[0].Value) != "xyz" || l[0].Long != 0 || l[0].First != 0 {
		t.Error(l[0])
	}
	if string(l[1].Key) != "b" || len(l[1].Value) != 0 || l[1].Long != 32768 || l[1].First != math.MaxUint32 {
		t.Error(l[1])
	}
	if string(l[2].Key) != "c" || len(l[2].Value) != 0 || l[2].Long != 0 || l[2].First != 0 {
		t.Error(l[2])
	}
}

// P4.3

func TestP43Find(t *testing.T) {
	for _, x := range []struct {
		key  string
		at   int
		want bool
	}{
		{"", 0, false}, {"\x00", 0, false}, {"a", 0, true}, {"a\x00", 1, false}, {"ab", 1, true}, {"aba", 2, false},
		{"az", 2, false}, {"b", 2, true}, {"ba", 3, false}, {"c", 3, false}, {"\x7f", 3, false}, {"\x80", 3, false},
		{"\xff", 3, true}, {"\xff\x00", 4, false}, {"\xff\xff", 4, false}, {longKey(97), 3, false},
	} {
		if at, is := leaf.Find(some(), []byte(x.key)); at != x.at || is != x.want {
			t.Errorf("Find of %q: got %d, %t, want %d, %t", x.key, at, is, x.at, x.want)
		}
		wantFind(t, some(), x.key)
	}
	if at, is := leaf.Find(some(), nil); at != 0 || is {
		t.Errorf("Find of nil: got %d, %t", at, is)
	}
}

func TestP43FindAmongNone(t *testing.T) {
	for _, l := range [][]leaf.Entry{nil, {}} {
		for _, key := range [][]byte{nil, {}, {0}, {1}, []byte(longKey(96))} {
			if at, is := leaf.Find(l, key); at != 0 || is {
				t.Errorf("Find of %q among none: got %d, %t", key, at, is)
			}
		}
	}
}

// The keys rise, and that is all that is asked of the entries.
func TestP43FindAmongWhatIsNotRight(t *testing.T) {
	l := []leaf.Entry{{}, {Key: []byte("a"), Long: -1}, {Key: []byte(longKey(500)), Value: []byte("v"), First: 1}}
	for _, key := range []string{"", "\x00", "a", "b", longKey(499), longKey(500), longKey(501), "z"} {
		wantFind(t, l, key)
	}
	if at, is := leaf.Find(l, nil); at != 0 || !is {
		t.Errorf("Find of nil: got %d, %t", at, is)
	}
}

// Of keys that don't rise there is some answer.
func TestP43FindEnds(t *testing.T) {
	l := []leaf.Entry{here("c", ""), here("a", ""), here("b", ""), here("a", ""), {}}
	for _, key := range []string{"", "a", "b", "c", "d"} {
		leaf.Find(l, []byte(key))
	}
}

func TestP43FindAmongMany(t *testing.T) {
	chance := rand.New(rand.NewPCG(4, 3))
	for n := range 70 {
		l := someEntries(chance, n, 4096)
		for _, x := range l {
			k := string(x.Key)
			for _, key := range []string{k, k[:len(k)-1], k + "\x00", k + "\xff", k[:len(k)-1] + string([]byte{k[len(k)-1] + 1})} {
				wantFind(t, l, key)
			}
		}
		for range 20 {
			wantFind(t, l, string(someBytes(chance, chance.IntN(4))))
		}
	}
}

// P4.4

func someBytes(chance *rand.Rand, n int) []byte {
	b := make([]byte, n)
	for i := range b {
		b[i] = byte(chance.Uint32())
	}
	return b
}

// someEntries are entries that are Right, so many at most, and no more than go into a page.
func someEntries(chance *rand.Rand, n, size int) []leaf.Entry {
	var l []leaf.Entry
	most := (size-4)/4 - 2
	for range n {
		x := leaf.Entry{Key: someBytes(chance, 1+chance.IntN(3))}
		if chance.IntN(20) == 0 {
			x.Key = someBytes(chance, 1+chance.IntN(96))
		}
		switch chance.IntN(6) {
		case 0:
			x.Long, x.First = 1+chance.IntN(32768), 1+api.Page(chance.IntN(1<<chance.IntN(32)))
		case 1:
			x.Value = someBytes(chance, chance.IntN(most-3-len(x.Key)))
		default:
			x.Value = someBytes(chance, chance.IntN(8))
		}
		l = append(l, x)
	}
	slices.SortFunc(l, func(x, y leaf.Entry) int { return bytes.Compare(x.Key, y.Key) })
	l = slices.CompactFunc(l, func(x, y leaf.Entry) bool { return bytes.Equal(x.Key, y.Key) })
	for fillAsTold(l) > size {
		l = l[:len(l)-1]
	}
	return l
}

func TestP44WhatIsPutIsGot(t *testing.T) {
	chance := rand.New(rand.NewPCG(4, 4))
	for range 3000 {
		size := 512 + chance.IntN(3585)
		l := someEntries(chance, chance.IntN(100), size)
		kept := copied(l)
		b, e := leaf.Put(l, size)
		if e != api.OK || len(b) != size {
			t.Fatalf("Put of size %d: error %d, %d bytes", size, e, len(b))
		}
		got, e := leaf.Get(b)
		if e != api.OK || !sameEntries(got, kept) || !sameEntries(l, kept) {
			t.Fatalf("Get of what was put: error %d, %v, want %v", e, got, kept)
		}
		again, e := leaf.Put(got, size)
		if e != api.OK || !bytes.Equal(again, b) {
			t.Fatalf("Put of what was got: error %d", e)
		}
	}
}

// Of each size: the greatest cells that may be.
func TestP44FourAlwaysGoIn(t *testing.T) {
	for size := 512; size <= 4096; size++ {
		most := leaf.Most(size)
		l := []leaf.Entry{hereOf("a", most), hereOf(longKey(96), most), hereOf("l", most), hereOf("m", most)}
		b, e := leaf.Put(l, size)
		if e != api.OK || !bytes.Equal(b, pageAsTold(l, size)) {
			t.Fatalf("four of size %d: error %d", size, e)
		}
		if _, e := leaf.Put(append(l, hereOf("n", most)), size); e != api.ErrFull {
			t.Fatalf("five of size %d: error %d", size, e)
		}
	}
	wantThere(t, "four far ones", []leaf.Entry{
		far("j"+longKey(95), 32768, 1), far(longKey(96), 32768, 1), far("l"+longKey(95), 32768, 1), far("m"+longKey(95), 32768, 1),
	}, 512)
}
