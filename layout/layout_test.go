package layout_test

import (
	"bytes"
	"math"
	"slices"
	"testing"

	"rubricator/api"
	"rubricator/layout"
)

// cell lets whatever bytes be an entry, in new memory.
func cell(b []byte) ([]byte, bool) { return slices.Clone(b), true }

func same(b []byte) []byte { return b }

func wantCells(t *testing.T, what string, kind byte, b []byte, want [][]byte, ok bool) {
	t.Helper()
	l, is := layout.Get(kind, b, cell)
	if is != ok || !slices.EqualFunc(l, want, bytes.Equal) || !ok && l != nil {
		t.Errorf("%s: Get tells %t, %v, want %v", what, is, l, want)
	}
}

func TestRightSize(t *testing.T) {
	for _, size := range []int{512, 513, 640, 4095, 4096} {
		if !layout.RightSize(size) {
			t.Errorf("%d isn't right", size)
		}
	}
	for _, size := range []int{511, 4097, 0, -1, -512, math.MinInt, math.MaxInt} {
		if layout.RightSize(size) {
			t.Errorf("%d is right", size)
		}
	}
}

func TestRightKey(t *testing.T) {
	for n := range 300 {
		if got := layout.RightKey(make([]byte, n)); got != (n >= 1 && n <= 96) {
			t.Errorf("a key of %d bytes: %t", n, got)
		}
	}
	if layout.RightKey(nil) {
		t.Error("no key is right")
	}
}

func TestAreNoughts(t *testing.T) {
	if !layout.AreNoughts(nil) || !layout.AreNoughts([]byte{}) {
		t.Error("no bytes aren't noughts")
	}
	for n := 1; n < 20; n++ {
		b := make([]byte, n)
		if !layout.AreNoughts(b) {
			t.Errorf("%d noughts aren't", n)
		}
		for i := range b {
			for _, c := range []byte{1, 128, 255} {
				b[i] = c
				if layout.AreNoughts(b) {
					t.Errorf("%v are noughts", b)
				}
			}
			b[i] = 0
		}
	}
}

func TestWriteHead(t *testing.T) {
	for _, x := range []struct {
		kind byte
		n    int
		want []byte
	}{{1, 0, []byte{1, 0, 0, 0}}, {3, 5, []byte{3, 0, 0, 5}}, {255, 258, []byte{255, 0, 1, 2}}, {4, 65535, []byte{4, 0, 255, 255}}} {
		w := layout.WriteHead(x.kind, x.n)
		if !bytes.Equal(w.Out(), x.want) || len(x.want) != layout.Head {
			t.Errorf("WriteHead of %d, %d: %v", x.kind, x.n, w.Out())
		}
		w.Num(7, 1)
		if !bytes.Equal(w.Out(), append(x.want, 7)) {
			t.Errorf("what is put behind: %v", w.Out())
		}
	}
}

func TestReadHead(t *testing.T) {
	b := []byte{3, 0, 1, 2, 7, 8}
	for n := 4; n <= 6; n++ {
		r, many, ok := layout.ReadHead(3, b[:n])
		if !ok || many != 258 || !bytes.Equal(r.Raw(n-4), b[4:n]) || r.Left() != 0 {
			t.Errorf("ReadHead of %v: %t, %d", b[:n], ok, many)
		}
	}
	for n := range 4 {
		for _, kind := range []byte{0, 3} {
			if r, many, ok := layout.ReadHead(kind, b[:n]); ok || r != nil || many != 0 {
				t.Errorf("ReadHead of %v: %t, %d", b[:n], ok, many)
			}
		}
	}
	for _, c := range [][]byte{{2, 0, 1, 2}, {0, 0, 1, 2}, {3, 1, 1, 2}, {3, 255, 0, 0}, {131, 0, 0, 1}} {
		if r, many, ok := layout.ReadHead(3, c); ok || r != nil || many != 0 {
			t.Errorf("ReadHead of %v: %t, %d", c, ok, many)
		}
	}
}

func TestMany(t *testing.T) {
	for _, most := range []int{1, 2, 42, 504, 4088} {
		for k := range 5 {
			for n, want := range map[int]int{k * most: k, k*most + 1: k + 1, (k + 1) * most: k + 1} {
				if got := layout.Many(n, most); got != want {
					t.Errorf("Many of %d, %d each: got %d, want %d", n, most, got, want)
				}
			}
		}
		for _, n := range []int{0, -1, -most, -most - 1, math.MinInt} {
			if got := layout.Many(n, most); got != 0 {
				t.Errorf("Many of %d, %d each: got %d", n, most, got)
			}
		}
	}
	if got := layout.Many(math.MaxInt, 2); got != 1<<62 {
		t.Errorf("Many of the most: got %d", got)
	}
}

func TestWriteLinked(t *testing.T) {
	for _, x := range []struct {
		kind byte
		n    int
		next api.Page
		want []byte
	}{
		{3, 5, 0, []byte{3, 0, 0, 5, 0, 0, 0, 0}},
		{4, 258, 0x01020304, []byte{4, 0, 1, 2, 1, 2, 3, 4}},
		{255, 65535, math.MaxUint32, []byte{255, 0, 255, 255, 255, 255, 255, 255}},
	} {
		w := layout.WriteLinked(x.kind, x.n, x.next)
		if !bytes.Equal(w.Out(), x.want) || len(x.want) != layout.Linked {
			t.Errorf("WriteLinked of %d, %d, %d: %v", x.kind, x.n, x.next, w.Out())
		}
		w.Num(7, 1)
		if !bytes.Equal(w.Out(), append(x.want, 7)) {
			t.Errorf("what is put behind: %v", w.Out())
		}
	}
}

func TestReadLinked(t *testing.T) {
	b := []byte{3, 0, 1, 2, 1, 2, 3, 4, 7, 8}
	for n := 8; n <= 10; n++ {
		r, many, next, ok := layout.ReadLinked(3, b[:n])
		if !ok || many != 258 || next != 0x01020304 || !bytes.Equal(r.Raw(n-8), b[8:n]) || r.Left() != 0 {
			t.Errorf("ReadLinked of %v: %t, %d, %d", b[:n], ok, many, next)
		}
	}
	wantNone := func(kind byte, b []byte) {
		t.Helper()
		if r, many, next, ok := layout.ReadLinked(kind, b); ok || r != nil || many != 0 || next != 0 {
			t.Errorf("ReadLinked of %v: %t, %d, %d", b, ok, many, next)
		}
	}
	for n := range 8 {
		wantNone(3, b[:n])
		wantNone(0, b[:n])
	}
	wantNone(3, nil)
	for _, first := range [][]byte{{2, 0}, {0, 0}, {3, 1}, {3, 255}, {131, 0}} {
		wantNone(3, append(first, b[2:]...))
	}
}

func TestPutAndGet(t *testing.T) {
	l := [][]byte{{1, 2, 3}, {}, {4}}
	b := layout.Put(7, l, same, 512)
	want := make([]byte, 512)
	copy(want, []byte{7, 0, 0, 3, 1, 253, 1, 253, 1, 252})
	copy(want[508:], []byte{4, 1, 2, 3})
	if !bytes.Equal(b, want) {
		t.Errorf("Put: got %v", b)
	}
	wantCells(t, "the page", 7, b, l, true)
	wantCells(t, "another kind", 8, b, nil, false)
	wantCells(t, "no cell", 7, layout.Put(7, nil, same, 512), nil, true)
	for n := range 6 {
		wantCells(t, "a head alone, a whole one or not", 7, []byte{7, 0, 0, 0, 0}[:n], nil, n >= 4)
	}
}

func TestGetOfOthers(t *testing.T) {
	for _, x := range []struct {
		what string
		at   int
		with []byte
	}{
		{"another byte behind the first one", 1, []byte{1}},
		{"a cell more", 3, []byte{3}},
		{"a cell less", 3, []byte{1}},
		{"a place behind the end", 4, []byte{2, 1}},
		{"a place behind the one ahead", 6, []byte{1, 254}},
		{"a byte behind the places", 8, []byte{1}},
		{"a byte in the midst", 100, []byte{1}},
		{"a byte ahead of the cells", 507, []byte{1}},
	} {
		b := layout.Put(7, [][]byte{{1, 2, 3}, {5}}, same, 512)
		copy(b[x.at:], x.with)
		wantCells(t, x.what, 7, b, nil, false)
	}
}

func TestGetOfACellThatIsNone(t *testing.T) {
	b := layout.Put(7, [][]byte{{1}, {2}, {3}}, same, 512)
	for bad := range byte(5) {
		l, ok := layout.Get(7, b, func(c []byte) (byte, bool) { return c[0], c[0] != bad })
		if is := bad < 1 || bad > 3; ok != is || is && !slices.Equal(l, []byte{1, 2, 3}) || !is && l != nil {
			t.Errorf("without %d: %t, %v", bad, ok, l)
		}
	}
}

// A cell may reach up to the places, and not into them.
func TestGetOfAFullPage(t *testing.T) {
	b := layout.Put(7, [][]byte{make([]byte, 506)}, same, 512)
	wantCells(t, "a full page", 7, b, [][]byte{make([]byte, 506)}, true)
	b[5]--
	wantCells(t, "a cell that begins in its place", 7, b, nil, false)
}
