package tree_test

import (
	"bytes"
	"maps"
	"slices"
	"strconv"
	"strings"
	"testing"

	"rubricator/api"
	"rubricator/branch"
	"rubricator/chain"
	"rubricator/disk"
	"rubricator/leaf"
	"rubricator/pager"
	"rubricator/tree"
)

// The words of the chapter, told again: what a tree is, page by page.

// told is what a tree has.
type told struct {
	leaves, branches, far []api.Page
	has                   map[string]string
	deep                  int  // how many pages a leaf is below the root, that one too
	filled                bool // whether it is well filled
}

// looker goes through a tree.
type looker struct {
	t    *testing.T
	what string
	s    pager.Source
	last string // the key ahead, if there is one
	told
}

// look goes through a tree, and ends the test, if it is none.
func look(t *testing.T, what string, s pager.Source, root api.Page) told {
	t.Helper()
	k := &looker{t: t, what: what, s: s, told: told{has: map[string]string{}, filled: true}}
	if root != 0 {
		k.page(root, nil, nil, 1)
	}
	all := k.pages()
	if slices.Sort(all); len(slices.Compact(slices.Clone(all))) != len(all) {
		t.Fatalf("%s: the tree has a page twice: %v", what, all)
	}
	return k.told
}

// page goes through the tree of a page, whose keys are from one on, and below another one (nil: all).
func (k *looker) page(p api.Page, from, below []byte, deep int) {
	k.t.Helper()
	b, e := k.s.Read(p)
	if e != api.OK {
		k.t.Fatalf("%s: page %d isn't read: error %d", k.what, p, e)
	}
	if l, e := leaf.Get(b); e == api.OK {
		k.leaf(p, l, from, below, deep)
		return
	}
	l, e := branch.Get(b)
	if e != api.OK {
		k.t.Fatalf("%s: page %d is neither leaf nor branch", k.what, p)
	}
	k.branches = append(k.branches, p)
	for i, x := range l {
		low, high := from, below
		if i > 0 {
			low = x.Key
		}
		if i+1 < len(l) {
			high = l[i+1].Key
		}
		k.page(x.Child, low, high, deep+1)
	}
}

func (k *looker) leaf(p api.Page, l []leaf.Entry, from, below []byte, deep int) {
	k.t.Helper()
	if k.deep != 0 && k.deep != deep || deep > 32 {
		k.t.Fatalf("%s: leaf %d is %d deep, another one %d", k.what, p, deep, k.deep)
	}
	k.deep = deep
	k.leaves = append(k.leaves, p)
	if deep == 1 && len(l) == 0 || deep > 1 && leaf.Fill(l) < k.s.Size()/4 {
		k.filled = false
	}
	for _, x := range l {
		key := string(x.Key)
		if len(k.has) > 0 && key <= k.last || key < string(from) || below != nil && key >= string(below) {
			k.t.Fatalf("%s: leaf %d has key %q, behind %q, from %q on, below %q", k.what, p, key, k.last, from, below)
		}
		k.last = key
		k.has[key] = k.value(x)
	}
}

// value is an entry's value, which is here just if it may be.
func (k *looker) value(x leaf.Entry) string {
	k.t.Helper()
	value := string(x.Value)
	if x.First != 0 {
		value = k.farValue(x.Long, x.First)
	}
	if may := mayBeHere(k.s.Size(), len(x.Key), len(value)); may != (x.First == 0) {
		k.t.Fatalf("%s: key %q has %d bytes, from page %d on: it may be here: %t", k.what, x.Key, len(value), x.First, may)
	}
	return value
}

func mayBeHere(size, key, value int) bool { return 1+key+1+2+value <= (size-4)/4-2 }

// mostHere is how many bytes a value has, at most, that is here.
func mostHere(size, key int) int { return (size-4)/4 - 2 - 4 - key }

func (k *looker) farValue(long int, p api.Page) string {
	k.t.Helper()
	var s strings.Builder
	for s.Len() < long {
		b, e := k.s.Read(p)
		if e != api.OK {
			k.t.Fatalf("%s: page %d of a far value isn't read: error %d", k.what, p, e)
		}
		part, next, e := chain.Get(b)
		if want := min(long-s.Len(), len(b)-8); e != api.OK || len(part) != want {
			k.t.Fatalf("%s: page %d of a far value has %d bytes, want %d", k.what, p, len(part), want)
		}
		s.Write(part)
		k.far = append(k.far, p)
		p = next
	}
	if p != 0 {
		k.t.Fatalf("%s: behind a far value is page %d", k.what, p)
	}
	return s.String()
}

// pages are all pages of a tree.
func (x told) pages() []api.Page { return slices.Concat(x.leaves, x.branches, x.far) }

// keys are a tree's keys, rising.
func (x told) keys() []string { return slices.Sorted(maps.Keys(x.has)) }

// world is a file, and a change of it, with a tree, and what that should have.
type world struct {
	t     *testing.T
	d     *disk.Disk
	f     *pager.File
	x     *pager.Txn
	root  api.Page
	now   told
	want  map[string]string
	fills bool // the tree should be well filled
	last  commit
	kept  []commit // those whose trees stay: none of their pages may be used
}

// commit is what was committed.
type commit struct {
	txn  uint64
	root api.Page
	tree told
}

func newWorld(t *testing.T, size int) *world {
	t.Helper()
	d := blank(t, size, 65536)
	w := &world{t: t, d: d, f: opened(t, d), want: map[string]string{}, fills: true}
	w.last = commit{txn: 1, tree: look(t, "new", w.f, 0)}
	w.now = w.last.tree
	w.begin()
	return w
}

// oldest is the oldest change whose pages may not be used.
func (w *world) oldest() uint64 {
	oldest := w.last.txn
	for _, c := range w.kept {
		oldest = min(oldest, c.txn)
	}
	return oldest
}

func (w *world) begin() {
	w.t.Helper()
	w.x = begun(w.t, w.f, w.oldest())
}

// put puts; what is handed in is changed behind the call.
func (w *world) put(key, value string) {
	w.t.Helper()
	k, v := []byte(key), []byte(value)
	root, e := tree.Put(w.x, w.root, k, v)
	if string(k) != key || string(v) != value {
		w.t.Fatalf("Put changes what is handed in")
	}
	scratch(k, v)
	what := "Put of " + show(key) + ", " + strconv.Itoa(len(value)) + " bytes"
	wantErr(w.t, what, e, api.OK)
	w.want[key] = value
	w.moved(what, root)
}

// cut cuts, whether the key is there or not.
func (w *world) cut(key string) {
	w.t.Helper()
	k := []byte(key)
	root, is, e := tree.Cut(w.x, w.root, k)
	if string(k) != key {
		w.t.Fatalf("Cut changes what is handed in")
	}
	scratch(k)
	what := "Cut of " + show(key)
	wantErr(w.t, what, e, api.OK)
	if _, there := w.want[key]; is != there || !there && root != w.root {
		w.t.Fatalf("%s: %t, root %d, was %d", what, is, root, w.root)
	}
	delete(w.want, key)
	w.moved(what, root)
}

// moved holds the tree of a new root against the old one.
func (w *world) moved(what string, root api.Page) {
	w.t.Helper()
	old := w.now
	w.root, w.now = root, look(w.t, what, w.x, root)
	wantHas(w.t, what, w.now, w.want)
	if w.fills && !w.now.filled {
		w.t.Fatalf("%s: the tree isn't well filled", what)
	}
	if (root == 0) != (len(w.want) == 0) && w.fills {
		w.t.Fatalf("%s: root %d, of %d keys", what, root, len(w.want))
	}
	// Who lets go of a page that is let go of already is refused.
	for _, p := range without(old.pages(), w.now.pages()) {
		if e := w.x.Free(p); e != api.ErrCorrupt {
			w.t.Fatalf("%s: page %d was of the old tree alone, and isn't let go of: Free tells %d", what, p, e)
		}
	}
}

// commit commits, and holds all pages against what should have become of them.
func (w *world) commit() {
	w.t.Helper()
	end, records, lists := w.f.Meta().End, w.f.Records(), w.f.Lists()
	least := min(w.oldest(), w.last.txn-1)
	wantErr(w.t, "Commit", w.x.Commit(w.root), api.OK)
	m := w.f.Meta()
	var usable, gone []api.Page
	for _, r := range records {
		if r.Txn <= least {
			usable = append(usable, r.Pages...)
		}
	}
	for _, r := range w.f.Records() {
		if r.Txn == m.Txn {
			gone = r.Pages
		}
	}
	for _, p := range without(w.now.pages(), w.last.tree.pages()) {
		if p < end && !slices.Contains(usable, p) {
			w.t.Fatalf("page %d was taken, that was in use, or waiting", p)
		}
	}
	wantPages(w.t, "let go of", gone, slices.Concat(lists, without(w.last.tree.pages(), w.now.pages())))
	wantPages(w.t, "all", accounted(w.f, w.now), upTo(m.End))
	w.last = commit{m.Txn, w.root, w.now}
	for _, c := range append(slices.Clone(w.kept), w.last) {
		wantTold(w.t, "the tree of change "+strconv.Itoa(int(c.txn)), look(w.t, "a tree that stays", w.f, c.root), c.tree)
	}
	w.begin()
}

// keep lets the tree that was committed last stay, till so many more are kept.
func (w *world) keep(most int) {
	w.kept = append(w.kept, w.last)
	w.kept = w.kept[max(0, len(w.kept)-most):]
}

// abort gives up what wasn't committed.
func (w *world) abort() {
	w.t.Helper()
	w.x.Abort()
	w.root, w.now, w.want = w.last.root, w.last.tree, maps.Clone(w.last.tree.has)
	wantTold(w.t, "given up", look(w.t, "given up", w.f, w.root), w.now)
	w.begin()
}

// accounted are all pages of a file, each as often as it is of the tree, the lists, or free.
func accounted(f *pager.File, x told) []api.Page {
	l := append(x.pages(), f.Lists()...)
	for _, r := range f.Records() {
		l = append(l, r.Pages...)
	}
	return l
}

// upTo are all pages below an end, but for the metas.
func upTo(end api.Page) []api.Page {
	var l []api.Page
	for p := api.Page(2); p < end; p++ {
		l = append(l, p)
	}
	return l
}

// without are those of a list that aren't in another one.
func without(l, others []api.Page) []api.Page {
	m := map[api.Page]struct{}{}
	for _, p := range others {
		m[p] = struct{}{}
	}
	return slices.DeleteFunc(slices.Clone(l), func(p api.Page) bool {
		_, is := m[p]
		return is
	})
}

// scratch changes bytes, behind a call to which they were handed in.
func scratch(l ...[]byte) {
	for _, b := range l {
		for i := range b {
			b[i] ^= 255
		}
	}
}

func wantErr(t *testing.T, what string, got, want api.Errno) {
	t.Helper()
	if got != want {
		t.Fatalf("%s: error %d, want %d", what, got, want)
	}
}

func wantHas(t *testing.T, what string, x told, want map[string]string) {
	t.Helper()
	if maps.Equal(x.has, want) {
		return
	}
	for key, value := range want {
		if got, is := x.has[key]; !is || got != value {
			t.Errorf("%s: key %s has %d bytes (%t), want %d", what, show(key), len(got), is, len(value))
		}
	}
	t.Fatalf("%s: the tree has %d keys, want %d", what, len(x.has), len(want))
}

// wantTold holds a tree against what it was: its pages, too.
func wantTold(t *testing.T, what string, x, want told) {
	t.Helper()
	wantHas(t, what, x, want.has)
	if !slices.Equal(x.leaves, want.leaves) || !slices.Equal(x.branches, want.branches) || !slices.Equal(x.far, want.far) {
		t.Fatalf("%s: the tree has other pages than it had", what)
	}
}

// wantPages holds pages against others, in whatever order.
func wantPages(t *testing.T, what string, got, want []api.Page) {
	t.Helper()
	got, want = slices.Sorted(slices.Values(got)), slices.Sorted(slices.Values(want))
	if !slices.Equal(got, want) {
		t.Fatalf("pages (%s): %v, want %v", what, got, want)
	}
}

func wantGet(t *testing.T, what string, s pager.Source, root api.Page, key, want string) {
	t.Helper()
	k := []byte(key)
	b, is, e := tree.Get(s, root, k)
	if e != api.OK || !is || string(b) != want || string(k) != key {
		t.Fatalf("%s: Get of %s: %t, %d bytes, error %d, want %d bytes", what, show(key), is, len(b), e, len(want))
	}
	// What is told is new memory.
	scratch(b)
	if b, is, e := tree.Get(s, root, k); e != api.OK || !is || string(b) != want {
		t.Fatalf("%s: Get of %s, behind a change of what it told: %t, %d bytes, error %d", what, show(key), is, len(b), e)
	}
}

// wantNone: there is no such key, or the error is told.
func wantNone(t *testing.T, what string, s pager.Source, root api.Page, key string, want api.Errno) {
	t.Helper()
	if b, is, e := tree.Get(s, root, []byte(key)); e != want || is || len(b) > 0 {
		t.Fatalf("%s: Get of %s: %t, %d bytes, error %d, want %d", what, show(key), is, len(b), e, want)
	}
}

func wantValue(t *testing.T, what string, s pager.Source, long int, first api.Page, want string) {
	t.Helper()
	b, e := tree.Value(s, nil, long, first)
	if e != api.OK || string(b) != want {
		t.Fatalf("%s: Value of %d bytes from %d on: %d bytes, error %d", what, long, first, len(b), e)
	}
	scratch(b)
	if b, e := tree.Value(s, nil, long, first); e != api.OK || string(b) != want {
		t.Fatalf("%s: Value of %d bytes from %d on, behind a change of what it told: %d bytes, error %d", what, long, first, len(b), e)
	}
}

func wantNoValue(t *testing.T, what string, s pager.Source, long int, first api.Page, want api.Errno) {
	t.Helper()
	if b, e := tree.Value(s, []byte("what is here"), long, first); e != want || len(b) > 0 {
		t.Fatalf("%s: Value of %d bytes from %d on: %d bytes, error %d, want %d", what, long, first, len(b), e, want)
	}
}

func wantNoPut(t *testing.T, what string, x *pager.Txn, root api.Page, key, value string, want api.Errno) {
	t.Helper()
	if p, e := tree.Put(x, root, []byte(key), []byte(value)); e != want || p != 0 {
		t.Fatalf("%s: Put of %s, %d bytes: root %d, error %d, want %d", what, show(key), len(value), p, e, want)
	}
}

func wantNoCut(t *testing.T, what string, x *pager.Txn, root api.Page, key string, want api.Errno) {
	t.Helper()
	if p, is, e := tree.Cut(x, root, []byte(key)); e != want || is || p != 0 {
		t.Fatalf("%s: Cut of %s: root %d, %t, error %d, want %d", what, show(key), p, is, e, want)
	}
}

// show is a key, as far as it is of use.
func show(key string) string {
	if len(key) <= 12 {
		return strconv.Quote(key)
	}
	return strconv.Quote(key[:12]) + ".. (" + strconv.Itoa(len(key)) + " bytes)"
}

func blank(t *testing.T, size, limit int) *disk.Disk {
	t.Helper()
	d, e := disk.New(size, limit)
	wantErr(t, "a disk", e, api.OK)
	return d
}

func opened(t *testing.T, d *disk.Disk) *pager.File {
	t.Helper()
	f, e := pager.Open(d)
	wantErr(t, "Open", e, api.OK)
	return f
}

func begun(t *testing.T, f *pager.File, oldest uint64) *pager.Txn {
	t.Helper()
	x, e := f.Begin(oldest)
	wantErr(t, "Begin", e, api.OK)
	return x
}

// text is so many bytes, that differ from place to place, and for each seed.
func text(n, seed int) string {
	b := make([]byte, n)
	for i := range b {
		b[i] = byte(i*7 + i/256 + seed*31)
	}
	return string(b)
}

// long is a key that is as long as a key may be, with such a front.
func long(front string) string { return front + strings.Repeat("k", 96-len(front)) }

// content is what a disk has.
func content(t *testing.T, d *disk.Disk) []byte {
	t.Helper()
	var l [][]byte
	for i := range d.Len() {
		b, e := d.Read(i)
		wantErr(t, "the disk", e, api.OK)
		l = append(l, b)
	}
	return bytes.Join(l, nil)
}
