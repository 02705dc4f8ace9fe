package node_test

import (
	"slices"
	"testing"

	"rubricator/api"
	"rubricator/branch"
	"rubricator/leaf"
	"rubricator/node"
	"rubricator/pager"
)

// source tells bytes, and else that there is no such page.
type source map[api.Page][]byte

func (s source) Size() int { return 512 }

func (s source) Read(p api.Page) ([]byte, api.Errno) {
	if b, ok := s[p]; ok {
		return b, api.OK
	}
	return nil, api.ErrRange
}

func leafOf(t *testing.T, keys ...string) []byte {
	t.Helper()
	var l []leaf.Entry
	for _, key := range keys {
		l = append(l, leaf.Entry{Key: []byte(key), Value: []byte("value of " + key)})
	}
	b, e := leaf.Put(l, 512)
	if e != api.OK {
		t.Fatalf("leaf.Put: error %d", e)
	}
	return b
}

// branchOf has kids from keys on, which are pages 2, 3 and so on.
func branchOf(t *testing.T, keys ...string) ([]branch.Entry, []byte) {
	t.Helper()
	var l []branch.Entry
	for i, key := range keys {
		l = append(l, branch.Entry{Key: []byte(key), Child: api.Page(2 + i)})
	}
	b, e := branch.Put(l, 512)
	if e != api.OK {
		t.Fatalf("branch.Put: error %d", e)
	}
	return l, b
}

// span is from a key on, and below another one.
func span(t *testing.T, from, below string) node.Span {
	t.Helper()
	var may node.Span
	if from != "" {
		l, _ := branchOf(t, "", from)
		may = may.Of(l, 1)
	}
	if below != "" {
		l, _ := branchOf(t, "", below)
		may = may.Of(l, 0)
	}
	return may
}

func TestReadWithoutASource(t *testing.T) {
	for _, s := range []pager.Source{nil, (*pager.File)(nil), (*pager.Txn)(nil)} {
		n, e := node.Read(s, 2, node.Span{})
		if e != api.ErrArg || n.Many() != 0 {
			t.Errorf("Read: error %d", e)
		}
		if b, e := node.Bytes(s, 2); e != api.ErrArg || b != nil {
			t.Errorf("Bytes: error %d", e)
		}
	}
}

func TestRead(t *testing.T) {
	_, kids := branchOf(t, "", "b", "c")
	s := source{2: leafOf(t, "a", "b"), 3: leafOf(t), 4: kids, 5: make([]byte, 512), 6: nil}
	for _, x := range []struct {
		page   api.Page
		isLeaf bool
		many   int
		e      api.Errno
	}{
		{2, true, 2, api.OK},
		{3, true, 0, api.OK},
		{4, false, 3, api.OK},
		{5, true, 0, api.ErrCorrupt},
		{6, true, 0, api.ErrCorrupt},
		{7, true, 0, api.ErrRange},
	} {
		n, e := node.Read(s, x.page, node.Span{})
		if e != x.e || n.IsLeaf() != x.isLeaf || n.Many() != x.many {
			t.Errorf("page %d: a leaf: %t, many: %d, error %d", x.page, n.IsLeaf(), n.Many(), e)
		}
	}
	n, _ := node.Read(s, 2, node.Span{})
	if string(n.Entries[1].Key) != "b" || string(n.Entries[1].Value) != "value of b" {
		t.Errorf("page 2: %v", n.Entries)
	}
	n, _ = node.Read(s, 4, node.Span{})
	if string(n.Kids[2].Key) != "c" || n.Kids[2].Child != 4 {
		t.Errorf("page 4: %v", n.Kids)
	}
	if b, e := node.Bytes(s, 4); e != api.OK || !slices.Equal(b, kids) {
		t.Errorf("Bytes of page 4: error %d", e)
	}
}

// A leaf's keys must be where they may; a branch's aren't held against it.
func TestReadOfSomeKeysAlone(t *testing.T) {
	_, kids := branchOf(t, "", "b", "x")
	s := source{2: leafOf(t, "c", "e"), 3: leafOf(t), 4: kids}
	for _, x := range []struct {
		from, below string
		ok          bool
	}{
		{"", "", true}, {"c", "", true}, {"", "f", true}, {"c", "f", true}, {"b", "e\x00", true}, {"bz", "ea", true},
		{"c\x00", "", false}, {"d", "", false}, {"f", "", false}, {"", "e", false}, {"", "d", false}, {"", "c", false}, {"", "a", false}, {"c", "e", false}, {"x", "a", false},
	} {
		may := span(t, x.from, x.below)
		_, e := node.Read(s, 2, may)
		if want := map[bool]api.Errno{true: api.OK, false: api.ErrCorrupt}[x.ok]; e != want {
			t.Errorf("from %q on, below %q: error %d, want %d", x.from, x.below, e, want)
		}
		for p := api.Page(3); p < 5; p++ {
			if _, e := node.Read(s, p, may); e != api.OK {
				t.Errorf("page %d, from %q on, below %q: error %d", p, x.from, x.below, e)
			}
		}
	}
}

func TestIsEmpty(t *testing.T) {
	for _, x := range []struct {
		from, below string
		empty       bool
	}{
		{"", "", false}, {"a", "", false}, {"", "a", false}, {"a", "b", false}, {"a", "a\x00", false}, {"\xff", "", false},
		{"a", "a", true}, {"b", "a", true}, {"ab", "a", true}, {"\xff", "\xfe\xff", true},
	} {
		if got := span(t, x.from, x.below).IsEmpty(); got != x.empty {
			t.Errorf("from %q on, below %q: %t", x.from, x.below, got)
		}
	}
}

// What may be below a kid is what both its own branch and those above it let be.
func TestOf(t *testing.T) {
	outer := []string{"", "c", "f"}
	inner := []string{"", "a", "c", "d", "f", "g"}
	above, _ := branchOf(t, outer...)
	kids, _ := branchOf(t, inner...)
	for i := range outer {
		for k := range inner {
			may := node.Span{}.Of(above, i).Of(kids, k)
			for _, key := range []string{"A", "a", "b", "c", "cc", "d", "e", "f", "ff", "g", "h"} {
				want := rightAt(outer, i, key) && rightAt(inner, k, key)
				_, e := node.Read(source{2: leafOf(t, key)}, 2, may)
				if (e == api.OK) != want || want && may.IsEmpty() {
					t.Errorf("kid %d of %d: %q: error %d", k, i, key, e)
				}
			}
		}
	}
}

// rightAt tells whether a key may be below a kid, of those from keys on.
func rightAt(from []string, i int, key string) bool {
	return key >= from[i] && (i+1 == len(from) || key < from[i+1])
}
