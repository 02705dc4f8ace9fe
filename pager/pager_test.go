package pager_test

import (
	"bytes"
	"math"
	"slices"
	"testing"

	"rubricator/api"
	"rubricator/disk"
	"rubricator/freed"
	"rubricator/leaf"
	"rubricator/meta"
	"rubricator/pager"
	"rubricator/space"
)

var (
	_ pager.Source = (*pager.File)(nil)
	_ pager.Source = (*pager.Txn)(nil)
)

// P11.1

func TestP111OpenOfNil(t *testing.T) {
	wantRefused(t, "nil", nil, api.ErrArg)
}

func TestP111OpenOfANewDisk(t *testing.T) {
	for _, size := range []int{512, 640, 4096} {
		d := blank(t, size, 9)
		f := opened(t, d)
		wantFile(t, "new", f, meta.Meta{Txn: 1, End: 2}, nil)
		if f.Size() != size || d.Calls() != 4 {
			t.Errorf("Size %d, Calls %d", f.Size(), d.Calls())
		}
		wantStuck(t, "new", f, false)
		d.Crash(nil)
		want := [][]byte{make([]byte, size), metaOf(meta.Meta{Txn: 1, End: 2}, size)}
		wantContent(t, "behind a crash", d, want)
		wantFile(t, "opened again", opened(t, d), meta.Meta{Txn: 1, End: 2}, nil)
		wantContent(t, "opened again", d, want)
	}
}

func TestP111OpenOfOnePage(t *testing.T) {
	for _, b := range [][]byte{page(0), page(1), metaPage(meta.Meta{Txn: 2, End: 2}), metaPage(meta.Meta{Txn: 1, End: 2})} {
		d := laid(t, 1, 9, map[int][]byte{0: b})
		wantRefused(t, "one page", d, api.ErrCorrupt)
		wantContent(t, "one page", d, [][]byte{b})
		d.Fail(1)
		wantRefused(t, "one page, of a disk whose read fails", d, api.ErrCorrupt)
		d.Fail(0)
		wantRefused(t, "one page, of a disk whose sync fails", d, api.ErrIO)
	}
}

func TestP111OpenOfNoughts(t *testing.T) {
	d := laid(t, 2, 2, nil)
	wantFile(t, "two pages", opened(t, d), meta.Meta{Txn: 1, End: 2}, nil)
	d.Crash(nil)
	wantContent(t, "two pages", d, [][]byte{page(0), metaPage(meta.Meta{Txn: 1, End: 2})})
	for n := 3; n < 6; n++ {
		wantRefused(t, "more pages", laid(t, n, 9, nil), api.ErrCorrupt)
	}
	for i := range 2 {
		for _, at := range []int{0, 1, 127, 128, 300, 511} {
			b := page(0)
			b[at] = 1
			d := laid(t, 2, 9, map[int][]byte{i: b})
			before := content(t, d)
			wantRefused(t, "a byte that is no nought", d, api.ErrCorrupt)
			wantContent(t, "a byte that is no nought", d, before)
		}
	}
}

// What is loose is synced first: it is there behind a crash.
func TestP111OpenSyncs(t *testing.T) {
	d := laid(t, 3, 9, map[int][]byte{0: metaPage(meta.Meta{Txn: 2, End: 3, Main: 2})})
	wantErr(t, "Write", d.Write(2, page(7)), api.OK)
	wantErr(t, "Write", d.Write(1, metaPage(meta.Meta{Txn: 3, End: 3})), api.OK)
	f := opened(t, d)
	wantFile(t, "what was loose", f, meta.Meta{Txn: 3, End: 3}, nil)
	if d.Loose() != 0 {
		t.Errorf("%d writes are loose", d.Loose())
	}
	d.Crash(nil)
	wantFile(t, "behind a crash", opened(t, d), meta.Meta{Txn: 3, End: 3}, nil)
	wantRead(t, "behind a crash", f, 2, page(7))
}

// A crash may fall in between a new file's grow, and its sync.
func TestP111ACrashOfTheFirstOpen(t *testing.T) {
	for after := range 5 {
		for pick := range 256 {
			d := blank(t, 512, 9)
			d.Fail(after)
			_, e := pager.Open(d)
			if want := []api.Errno{api.ErrIO, api.ErrIO, api.ErrIO, api.ErrIO, api.OK}[after]; e != want {
				t.Fatalf("the call behind %d fails: error %d", after, e)
			}
			d.Crash([]byte{byte(pick)})
			f := opened(t, d)
			wantFile(t, "behind a crash", f, meta.Meta{Txn: 1, End: 2}, nil)
			x := begun(t, f, 9)
			p := added(t, x, 5)[0]
			done(t, x, p)
			wantRead(t, "behind a crash", opened(t, d), p, page(5))
		}
	}
}

func TestP111TheFirstErrorOfANewDisk(t *testing.T) {
	for _, n := range []int{0, 2} {
		calls := []string{"sync", "grow", "write", "sync"}
		if n == 2 {
			calls = []string{"sync", "read", "read", "write", "sync"}
		}
		for after, what := range calls {
			d := laid(t, n, 9, nil)
			d.Fail(after)
			wantRefused(t, what, d, api.ErrIO)
			if d.Calls() != after+1 {
				t.Errorf("%s: %d calls, want %d", what, d.Calls(), after+1)
			}
			if grown := after > 1; n == 0 && d.Len() == 2 != grown {
				t.Errorf("%s: %d pages", what, d.Len())
			}
			wantFile(t, "opened again", opened(t, d), meta.Meta{Txn: 1, End: 2}, nil)
		}
	}
	wantRefused(t, "a limit of 1", blank(t, 512, 1), api.ErrFull)
	d := blank(t, 512, 1)
	d.Fail(0)
	wantRefused(t, "a limit of 1, a sync that fails", d, api.ErrIO)
	wantRefused(t, "a disk that New didn't make", new(disk.Disk), api.ErrFull)
}

// lists is a disk of 9 pages, whose lists are pages 4, 7 and 3.
func lists(t *testing.T) *disk.Disk {
	t.Helper()
	return laid(t, 9, 9, map[int][]byte{
		0: metaPage(meta.Meta{Txn: 6, End: 9, Main: 2, Free: 4}),
		4: listPage(7, pair(0, 6), pair(3, 5)),
		7: listPage(3),
		3: listPage(0, pair(3, 8)),
	})
}

func TestP111TheFirstErrorOfAFile(t *testing.T) {
	for after, what := range []string{"sync", "page 0", "page 1", "page 4", "page 7", "page 3"} {
		d := lists(t)
		d.Fail(after)
		wantRefused(t, what, d, api.ErrIO)
		if d.Calls() != after+1 {
			t.Errorf("%s: %d calls, want %d", what, d.Calls(), after+1)
		}
	}
	d := lists(t)
	d.Fail(6)
	wantFile(t, "none fails", opened(t, d), meta.Meta{Txn: 6, End: 9, Main: 2, Free: 4}, list(4, 7, 3), rec(0, 6), rec(3, 5, 8))
	if _, e := d.Read(0); e != api.ErrIO {
		t.Errorf("Open made %d calls", d.Calls())
	}
}

func TestP111TwoMetas(t *testing.T) {
	old := meta.Meta{Txn: 4, End: 4, Main: 2}
	young := meta.Meta{Txn: 5, End: 4, Main: 3}
	both := func() *disk.Disk { return laid(t, 4, 9, map[int][]byte{0: metaPage(old), 1: metaPage(young)}) }
	wantFile(t, "both", opened(t, both()), young, nil)
	wantFile(t, "the older one alone", opened(t, laid(t, 4, 9, map[int][]byte{0: metaPage(old)})), old, nil)
	wantFile(t, "the newer one alone", opened(t, laid(t, 4, 9, map[int][]byte{1: metaPage(young)})), young, nil)
	wantRefused(t, "each in the other one's place", laid(t, 4, 9, map[int][]byte{1: metaPage(old), 0: metaPage(young)}), api.ErrCorrupt)
	wantRefused(t, "none", laid(t, 4, 9, map[int][]byte{0: page(1), 1: page(2)}), api.ErrCorrupt)
	wantRefused(t, "one of another size", laid(t, 8, 9, map[int][]byte{0: metaOf(old, 640)[:512]}), api.ErrCorrupt)
	for at := range 512 {
		for i, other := range []meta.Meta{young, old} {
			d := both()
			b, _ := d.Read(i)
			b[at] ^= 64
			wantErr(t, "Write", d.Write(i, b), api.OK)
			wantFile(t, "one is spoiled", opened(t, d), other, nil)
			b, _ = d.Read(1 - i)
			b[511-at] ^= 2
			wantErr(t, "Write", d.Write(1-i, b), api.OK)
			wantRefused(t, "both are spoiled", d, api.ErrCorrupt)
		}
	}
}

func TestP111TheEnd(t *testing.T) {
	for _, x := range []struct {
		what   string
		n      int
		limit  int
		end    api.Page
		refuse bool
	}{
		{"as many as there are", 5, 9, 5, false},
		{"fewer", 5, 9, 4, false},
		{"the least", 5, 9, 2, false},
		{"the limit", 5, 5, 5, false},
		{"above Len", 5, 9, 6, true},
		{"above Len, the limit", 5, 9, 9, true},
		{"above the limit", 5, 9, 10, true},
		{"above the limit, which is Len", 5, 5, 6, true},
		{"the greatest limit", 5, 65536, 65536, true},
		{"the greatest", 5, 65536, math.MaxUint32, true},
		{"one of which 16 bits may be", 5, 65536, 65536 + 4, true},
	} {
		m := meta.Meta{Txn: 5, End: x.end}
		d := laid(t, x.n, x.limit, map[int][]byte{0: metaPage(meta.Meta{Txn: 4, End: 3}), 1: metaPage(m)})
		if x.refuse {
			wantRefused(t, x.what, d, api.ErrCorrupt)
			continue
		}
		wantFile(t, x.what, opened(t, d), m, nil)
	}
}

func TestP111ListsThatMayNotBe(t *testing.T) {
	spoiled := listPage(0, pair(1, 5))
	spoiled[100] = 1
	falling := listPage(0, pair(1, 5), pair(1, 6))
	falling[19], falling[31] = 6, 5
	entries, _ := leaf.Put([]leaf.Entry{{Key: []byte("a")}}, 512)
	for _, x := range []struct {
		what  string
		pages map[int][]byte
	}{
		{"noughts", nil},
		{"another page", map[int][]byte{4: entries}},
		{"a byte among the noughts", map[int][]byte{4: spoiled}},
		{"pairs that fall", map[int][]byte{4: falling}},
		{"a meta's", map[int][]byte{4: metaPage(meta.Meta{Txn: 5, End: 9, Free: 4})}},
		{"behind a good one", map[int][]byte{4: listPage(5, pair(1, 6)), 5: entries}},
		{"itself", map[int][]byte{4: listPage(4)}},
		{"itself, with pairs", map[int][]byte{4: listPage(4, pair(1, 6))}},
		{"the first one", map[int][]byte{4: listPage(5), 5: listPage(4)}},
		{"the one ahead", map[int][]byte{4: listPage(5), 5: listPage(6), 6: listPage(5)}},
		{"page 1", map[int][]byte{4: listPage(1)}},
		{"the end", map[int][]byte{4: listPage(9), 9: listPage(0)}},
		{"above the end", map[int][]byte{4: listPage(10), 10: listPage(0)}},
		{"above Len", map[int][]byte{4: listPage(12)}},
		{"the greatest", map[int][]byte{4: listPage(math.MaxUint32)}},
		{"page 65536", map[int][]byte{4: listPage(65536)}},
	} {
		x2 := map[int][]byte{1: metaPage(meta.Meta{Txn: 5, End: 9, Free: 4})}
		for i, b := range x.pages {
			x2[i] = b
		}
		d := laid(t, 12, 99, x2)
		before := content(t, d)
		wantRefused(t, x.what, d, api.ErrCorrupt)
		wantContent(t, x.what, d, before)
	}
}

// Which page is next is asked ahead of reading it.
func TestP111ListsThatAreNotRead(t *testing.T) {
	for _, next := range []api.Page{1, 4, 9, 10, 12, math.MaxUint32} {
		d := laid(t, 12, 99, map[int][]byte{1: metaPage(meta.Meta{Txn: 5, End: 9, Free: 4}), 4: listPage(next)})
		d.Fail(4) // sync, pages 0, 1, and 4
		wantRefused(t, "a list that isn't read", d, api.ErrCorrupt)
	}
}

func TestP111Pairs(t *testing.T) {
	for _, x := range []struct {
		what   string
		first  []freed.Pair
		second []freed.Pair
		want   []space.Record // none: they may not be
	}{
		{"one", []freed.Pair{pair(1, 6)}, nil, recs(rec(1, 6))},
		{"on the second page", nil, []freed.Pair{pair(1, 6)}, recs(rec(1, 6))},
		{"of all", []freed.Pair{pair(0, 2)}, []freed.Pair{pair(1, 8)}, recs(rec(0, 2), rec(1, 8))},
		{"one change on both", []freed.Pair{pair(3, 6)}, []freed.Pair{pair(3, 7), pair(5, 2)}, recs(rec(3, 6, 7), rec(5, 2))},
		{"of the meta's Txn", []freed.Pair{pair(5, 6)}, nil, recs(rec(5, 6))},
		{"the lists themselves", []freed.Pair{pair(2, 4)}, []freed.Pair{pair(3, 5)}, recs(rec(2, 4), rec(3, 5))},
		{"the root", []freed.Pair{pair(2, 3)}, nil, recs(rec(2, 3))},
		{"above the meta's Txn", []freed.Pair{pair(6, 6)}, nil, nil},
		{"above the meta's Txn, at the end", []freed.Pair{pair(1, 6)}, []freed.Pair{pair(4, 7), pair(math.MaxUint64, 8)}, nil},
		{"page 0", []freed.Pair{pair(1, 0)}, nil, nil},
		{"page 1", []freed.Pair{pair(1, 1), pair(1, 2)}, nil, nil},
		{"the end", []freed.Pair{pair(1, 9)}, nil, nil},
		{"above the end", []freed.Pair{pair(1, 2)}, []freed.Pair{pair(2, 10)}, nil},
		{"twice", []freed.Pair{pair(1, 6), pair(2, 6)}, nil, nil},
		{"twice, on two pages", []freed.Pair{pair(1, 6)}, []freed.Pair{pair(2, 6)}, nil},
		{"twice, of one change", []freed.Pair{pair(1, 6)}, []freed.Pair{pair(1, 6)}, nil},
		{"pages that fall", []freed.Pair{pair(1, 7)}, []freed.Pair{pair(1, 6)}, nil},
		{"changes that fall", []freed.Pair{pair(2, 6)}, []freed.Pair{pair(1, 7)}, nil},
	} {
		m := meta.Meta{Txn: 5, End: 9, Main: 3, Free: 4}
		d := laid(t, 12, 99, map[int][]byte{1: metaPage(m), 4: listPage(5, x.first...), 5: listPage(0, x.second...)})
		if x.want == nil {
			wantRefused(t, x.what, d, api.ErrCorrupt)
			continue
		}
		wantFile(t, x.what, opened(t, d), m, list(4, 5), x.want...)
	}
}

func TestP111ManyLists(t *testing.T) {
	const n = 300
	m := meta.Meta{Txn: 5, End: 2 * n, Free: 2*n - 1}
	pages := map[int][]byte{1: metaPage(m)}
	var want []api.Page
	for p := 2*n - 1; p >= n; p-- {
		next := api.Page(p - 1)
		if p == n {
			next = 0
		}
		pages[p] = listPage(next, pair(uint64(2*n-p)/100, api.Page(2*n-p+1)))
		want = append(want, api.Page(p))
	}
	wantFile(t, "many", opened(t, laid(t, 2*n, 65536, pages)), m, want, rec(0, all(2, 101)...), rec(1, all(101, 201)...), rec(2, all(201, 301)...), rec(3, 301))
}

// P11.2

func TestP112Read(t *testing.T) {
	pages := map[int][]byte{1: metaPage(meta.Meta{Txn: 5, End: 6, Main: 3})}
	for i := 2; i < 9; i++ {
		pages[i] = page(byte(i))
	}
	d := laid(t, 9, 20, pages)
	f := opened(t, d)
	for p := api.Page(2); p < 6; p++ {
		wantRead(t, "below the end", f, p, page(byte(p)))
	}
	calls := d.Calls()
	for _, p := range []api.Page{0, 1, 6, 7, 8, 9, 20, 65536, 65538, math.MaxUint32, 1 << 31} {
		wantNotRead(t, "none of the file's", f, p, api.ErrCorrupt)
	}
	if d.Calls() != calls {
		t.Errorf("%d calls of the disk", d.Calls()-calls)
	}
	d.Fail(0)
	wantNotRead(t, "below 2, on a disk that fails", f, 1, api.ErrCorrupt)
	wantNotRead(t, "the end, on a disk that fails", f, 6, api.ErrCorrupt)
	wantNotRead(t, "a disk that fails", f, 5, api.ErrIO)
	wantRead(t, "behind that", f, 5, page(5))
}

func TestP112ReadIsNewMemory(t *testing.T) {
	f := opened(t, laid(t, 3, 20, map[int][]byte{1: metaPage(meta.Meta{Txn: 5, End: 3}), 2: page(9)}))
	b, _ := f.Read(2)
	clear(b)
	_ = append(b, 1, 2, 3)
	wantRead(t, "changed behind the call", f, 2, page(9))
}

// The disk has lost its pages: an error of it that is none of those that may be told.
func TestP112ADiskWithoutItsPages(t *testing.T) {
	d := laid(t, 3, 20, map[int][]byte{1: metaPage(meta.Meta{Txn: 5, End: 3}), 2: page(9)})
	f := opened(t, d)
	*d = disk.Disk{}
	wantNotRead(t, "a page that the disk hasn't", f, 2, api.ErrCorrupt)
	if f.Size() != 0 {
		t.Errorf("Size %d", f.Size())
	}
}

func TestP112WhatIsToldIsNewMemory(t *testing.T) {
	f := opened(t, lists(t))
	want := func(what string) {
		t.Helper()
		wantFile(t, what, f, meta.Meta{Txn: 6, End: 9, Main: 2, Free: 4}, list(4, 7, 3), rec(0, 6), rec(3, 5, 8))
	}
	want("ahead")
	l := f.Lists()
	clear(l)
	l = append(l[:1], 99)
	_ = append(l, 98)
	want("Lists changed, and grown")
	r := f.Records()
	for i := range r {
		_ = append(r[i].Pages, 77)
		clear(r[i].Pages)
		r[i].Txn = 66
	}
	_ = append(r[:1], rec(9, 9))
	want("Records changed, and grown")
	r = f.Records()
	grown := append(r[0].Pages, 55)
	if !slices.Equal(r[1].Pages, list(5, 8)) || grown[1] != 55 {
		t.Errorf("one Record grown, the next one is %v", r[1])
	}
	m := f.Meta()
	m.End = 3
	want("Meta changed")
}

func TestP112RecordsBehindACommitAreNewMemory(t *testing.T) {
	f := opened(t, blank(t, 512, 30))
	x := begun(t, f, 9)
	added(t, x, 1, 2, 3)
	done(t, x, 2)
	x = begun(t, f, 9)
	released(t, x, 2, 3)
	done(t, x, 4)
	want := func(what string) {
		t.Helper()
		wantFile(t, what, f, meta.Meta{Txn: 3, End: 6, Main: 4, Free: 5}, list(5), rec(3, 2, 3))
	}
	want("ahead")
	r, l := f.Records(), f.Lists()
	_, _ = append(r[0].Pages, 9), append(l, 9)
	clear(r[0].Pages)
	clear(r)
	clear(l)
	want("changed, and grown")
}

func TestP112Nil(t *testing.T) {
	var f *pager.File
	if f.Size() != 0 {
		t.Errorf("Size of nil: %d", f.Size())
	}
	for _, p := range []api.Page{0, 1, 2, math.MaxUint32} {
		wantNotRead(t, "nil", f, p, api.ErrArg)
	}
	wantFile(t, "nil", f, meta.Meta{}, nil)
	wantStuck(t, "nil", f, false)
	if x, e := f.Begin(1); x != nil || e != api.ErrArg {
		t.Errorf("Begin of nil: %v, error %d", x, e)
	}
}

// Things that Open and Begin didn't make: no call of them panics.
func TestP112ThingsThatWereNotMade(t *testing.T) {
	f := new(pager.File)
	wantNotRead(t, "a file that Open didn't make", f, 2, api.ErrCorrupt)
	wantFile(t, "a file that Open didn't make", f, meta.Meta{}, nil)
	if x, e := f.Begin(math.MaxUint64); e == api.OK || x != nil || f.Size() != 0 {
		t.Errorf("Begin: %v, error %d", x, e)
	}
	x := new(pager.Txn)
	wantOver(t, "a change that Begin didn't make", x, true)
	wantNotRead(t, "a change that Begin didn't make", x, 2, api.ErrState)
	wantNew(t, "a change that Begin didn't make", x, nil, 0, api.ErrState)
	wantErr(t, "Free", x.Free(2), api.ErrState)
	wantErr(t, "Commit", x.Commit(0), api.ErrState)
	x.Abort()
	if x.Size() != 0 {
		t.Errorf("Size %d", x.Size())
	}
}

// Any bytes at all are a file, or refused: here a file's, a byte of each page of it changed.
func TestP112SpoiledFiles(t *testing.T) {
	whole := bytes.Join(content(t, lists(t)), nil)
	for at := range whole {
		for _, c := range []byte{1, 4, 128, 255} {
			b := slices.Clone(whole)
			b[at] ^= c
			d, _ := disk.From(b, 512, 9)
			f, e := pager.Open(d)
			if e == api.OK {
				for p := range f.Meta().End + 2 {
					_, e := f.Read(p)
					if right := p >= 2 && p < f.Meta().End; right != (e == api.OK) {
						t.Fatalf("byte %d: Read of %d tells error %d", at, p, e)
					}
				}
				if !space.Right(f.Records(), f.Meta().End) {
					t.Fatalf("byte %d: Records %v", at, f.Records())
				}
				continue
			}
			if f != nil || e != api.ErrCorrupt {
				t.Fatalf("byte %d: error %d", at, e)
			}
		}
	}
}
