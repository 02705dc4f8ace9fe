package pager_test

import (
	"math"
	"slices"
	"strconv"
	"testing"

	"rubricator/api"
	"rubricator/disk"
	"rubricator/freed"
	"rubricator/meta"
	"rubricator/pager"
)

// mixed is a file of change 7: pages 2, 3 and 4 are in use, 5 is the list, 6 is free for all, 7 since change 3, 8 since 6, 9 since 7.
func mixed(t *testing.T, limit int) *disk.Disk {
	t.Helper()
	pages := map[int][]byte{
		1: metaPage(meta.Meta{Txn: 7, End: 10, Main: 2, Free: 5}),
		5: listPage(0, pair(0, 6), pair(3, 7), pair(6, 8), pair(7, 9)),
	}
	for i := 2; i < 10; i++ {
		if i != 5 {
			pages[i] = page(byte(i))
		}
	}
	return laid(t, 10, limit, pages)
}

// P11.3

func TestP113BeginOfNil(t *testing.T) {
	var f *pager.File
	for _, oldest := range []uint64{0, 1, math.MaxUint64} {
		if x, e := f.Begin(oldest); x != nil || e != api.ErrArg {
			t.Errorf("Begin of nil: %v, error %d", x, e)
		}
	}
}

func TestP113Oldest(t *testing.T) {
	for oldest, want := range map[uint64][]api.Page{
		0: {6, 10, 11}, 1: {6, 10, 11}, 2: {6, 10, 11},
		3: {6, 7, 10}, 4: {6, 7, 10}, 5: {6, 7, 10},
		6: {6, 7, 8, 10}, 7: {6, 7, 8, 10}, 8: {6, 7, 8, 10}, 99: {6, 7, 8, 10}, math.MaxUint64: {6, 7, 8, 10},
	} {
		f := opened(t, mixed(t, 20))
		x := begun(t, f, oldest)
		for _, p := range want {
			wantNew(t, "oldest "+strconv.FormatUint(oldest, 10), x, page(1), p, api.OK)
		}
	}
	// In a new file no page is free, and the last Txn less 1 is 0.
	x := begun(t, opened(t, blank(t, 512, 20)), math.MaxUint64)
	wantNew(t, "new", x, page(1), 2, api.OK)
}

// What Begin tells stands apart from the file, and from other changes.
func TestP113ChangesStandApart(t *testing.T) {
	f := opened(t, mixed(t, 20))
	a, b := begun(t, f, 9), begun(t, f, 9)
	wantNew(t, "one", a, page(21), 6, api.OK)
	wantNew(t, "the other one", b, page(22), 6, api.OK)
	released(t, a, 2)
	wantRead(t, "one", a, 6, page(21))
	wantRead(t, "the other one", b, 6, page(22))
	wantRead(t, "the file", f, 6, page(6))
	released(t, b, 2)
	wantFile(t, "the file", f, meta.Meta{Txn: 7, End: 10, Main: 2, Free: 5}, list(5), rec(0, 6), rec(3, 7), rec(6, 8), rec(7, 9))
	a.Abort()
	wantOver(t, "one", a, true)
	wantOver(t, "the other one", b, false)
	wantRead(t, "the other one", b, 6, page(22))
}

func TestP113Read(t *testing.T) {
	d := mixed(t, 20)
	f := opened(t, d)
	x := begun(t, f, 9)
	for p := api.Page(2); p < 10; p++ {
		if p != 5 {
			wantRead(t, "the file's", x, p, page(byte(p)))
		}
	}
	for _, p := range []api.Page{0, 1, 10, 11, 20, math.MaxUint32} {
		wantNotRead(t, "none of the file's", x, p, api.ErrCorrupt)
	}
	wantNew(t, "a page of the file", x, page(31), 6, api.OK)
	wantNew(t, "another one", x, page(32), 7, api.OK)
	wantNew(t, "another one", x, page(33), 8, api.OK)
	wantNew(t, "a page more", x, page(34), 10, api.OK)
	for p, c := range map[api.Page]byte{6: 31, 7: 32, 8: 33, 10: 34, 9: 9, 2: 2} {
		wantRead(t, "New", x, p, page(c))
	}
	released(t, x, 7, 10, 3)
	wantRead(t, "let go of again: the file's", x, 7, page(7))
	wantNotRead(t, "let go of again, none of the file's", x, 10, api.ErrCorrupt)
	wantRead(t, "the file's, let go of", x, 3, page(3))
	wantNew(t, "told again", x, page(35), 7, api.OK)
	wantRead(t, "told again", x, 7, page(35))
	calls := d.Calls()
	d.Fail(0)
	wantRead(t, "its own, of a disk that fails", x, 6, page(31))
	wantNotRead(t, "none, of a disk that fails", x, 10, api.ErrCorrupt)
	if d.Calls() != calls {
		t.Errorf("%d calls of the disk", d.Calls()-calls)
	}
	wantNotRead(t, "the file's, of a disk that fails", x, 2, api.ErrIO)
	wantRead(t, "behind that", x, 2, page(2))
	x.Abort()
	for _, p := range []api.Page{0, 2, 6, 7, 10, 99} {
		wantNotRead(t, "over", x, p, api.ErrState)
		wantNotRead(t, "nil", (*pager.Txn)(nil), p, api.ErrArg)
	}
}

func TestP113New(t *testing.T) {
	f := opened(t, mixed(t, 20))
	x := begun(t, f, 9)
	for _, n := range []int{0, 1, 128, 511, 513, 640, 1024, 4096} {
		wantNew(t, strconv.Itoa(n)+" bytes", x, make([]byte, n), 0, api.ErrArg)
	}
	wantNew(t, "no bytes", x, nil, 0, api.ErrArg)
	wantNew(t, "as many as a page", x, page(1), 6, api.OK)
	x.Abort()
	wantNew(t, "too few, over", x, make([]byte, 511), 0, api.ErrArg)
	wantNew(t, "too many, over", x, make([]byte, 513), 0, api.ErrArg)
	wantNew(t, "over", x, page(1), 0, api.ErrState)
	wantNew(t, "nil", nil, page(1), 0, api.ErrArg)
	wantNew(t, "no bytes of nil", nil, nil, 0, api.ErrArg)
	y := begun(t, opened(t, blank(t, 640, 20)), 9)
	wantNew(t, "512 of 640", y, page(1), 0, api.ErrArg)
	wantNew(t, "640 of 640", y, make([]byte, 640), 2, api.OK)
}

func TestP113NewKeepsNothing(t *testing.T) {
	f := opened(t, blank(t, 512, 20))
	x := begun(t, f, 9)
	b := page(1)
	wantNew(t, "New", x, b, 2, api.OK)
	clear(b)
	wantRead(t, "what was handed in is changed", x, 2, page(1))
	got, _ := x.Read(2)
	clear(got)
	wantRead(t, "what was told is changed", x, 2, page(1))
	b = page(4)
	wantNew(t, "New", x, b, 3, api.OK)
	done(t, x, 3)
	if !slices.Equal(b, page(4)) {
		t.Error("what was handed in is written to")
	}
	clear(b)
	wantRead(t, "committed", f, 2, page(1))
	wantRead(t, "committed", f, 3, page(4))
}

func TestP113NewOfAFullSpace(t *testing.T) {
	x := begun(t, opened(t, mixed(t, 12)), 9)
	for _, p := range []api.Page{6, 7, 8, 10, 11} {
		wantNew(t, "room", x, page(1), p, api.OK)
	}
	wantNew(t, "full", x, page(1), 0, api.ErrFull)
	wantNew(t, "full", x, page(1), 0, api.ErrFull)
	wantNew(t, "full, too few bytes", x, nil, 0, api.ErrArg)
	released(t, x, 2, 7)
	wantNew(t, "one was let go of", x, page(2), 7, api.OK)
	wantNew(t, "full again", x, page(2), 0, api.ErrFull)
}

func TestP113Free(t *testing.T) {
	x := begun(t, opened(t, mixed(t, 12)), 4)
	for _, p := range []api.Page{0, 1, 6, 7, 8, 9, 10, 11, 12, 65538, math.MaxUint32} {
		wantErr(t, "one that may not be", x.Free(p), api.ErrCorrupt)
	}
	released(t, x, 2, 5)
	wantErr(t, "gone", x.Free(2), api.ErrCorrupt)
	wantErr(t, "gone", x.Free(5), api.ErrCorrupt)
	added(t, x, 1, 2, 3)
	released(t, x, 6, 10)
	wantErr(t, "usable", x.Free(6), api.ErrCorrupt)
	wantErr(t, "usable", x.Free(10), api.ErrCorrupt)
	wantErr(t, "the end", x.Free(11), api.ErrCorrupt)
	wantRead(t, "kept", x, 7, page(2))
	x.Abort()
	for _, p := range []api.Page{0, 3, 7, 99} {
		wantErr(t, "over", x.Free(p), api.ErrState)
		wantErr(t, "nil", (*pager.Txn)(nil).Free(p), api.ErrArg)
	}
}

func TestP113OverAndAbort(t *testing.T) {
	d := mixed(t, 12)
	before := content(t, d)
	f := opened(t, d)
	x := begun(t, f, 9)
	wantOver(t, "begun", x, false)
	if x.Size() != 512 {
		t.Errorf("Size %d", x.Size())
	}
	added(t, x, 1, 2, 3, 4)
	released(t, x, 2, 3)
	wantOver(t, "in the midst", x, false)
	x.Abort()
	wantOver(t, "aborted", x, true)
	x.Abort()
	wantOver(t, "aborted twice", x, true)
	wantErr(t, "Commit", x.Commit(0), api.ErrState)
	if x.Size() != 512 {
		t.Errorf("Size %d, when it is over", x.Size())
	}
	wantFile(t, "aborted", f, meta.Meta{Txn: 7, End: 10, Main: 2, Free: 5}, list(5), rec(0, 6), rec(3, 7), rec(6, 8), rec(7, 9))
	wantContent(t, "aborted", d, before)
	if d.Loose() != 0 {
		t.Errorf("%d writes", d.Loose())
	}
	y := begun(t, f, 9)
	wantNew(t, "the next one", y, page(1), 6, api.OK)
	var none *pager.Txn
	none.Abort()
	wantOver(t, "nil", none, true)
	if none.Size() != 0 {
		t.Errorf("Size of nil: %d", none.Size())
	}
}

// P11.4

func TestP114CommitOfNil(t *testing.T) {
	for _, main := range []api.Page{0, 1, 2, 99} {
		wantErr(t, "nil", (*pager.Txn)(nil).Commit(main), api.ErrArg)
	}
}

func TestP114Main(t *testing.T) {
	for main, want := range map[api.Page]api.Errno{0: api.OK, 1: api.ErrArg, 2: api.OK, 9: api.OK, 10: api.OK, 11: api.ErrArg, 12: api.ErrArg, 20: api.ErrArg, 65536: api.ErrArg, math.MaxUint32: api.ErrArg} {
		what := "Commit of " + strconv.Itoa(int(main))
		d := mixed(t, 20)
		f := opened(t, d)
		x := begun(t, f, 0)
		added(t, x, 1, 2) // 6 and 10: the end is 11
		before := content(t, d)
		calls := d.Calls()
		wantErr(t, what, x.Commit(main), want)
		wantOver(t, what, x, true)
		wantErr(t, what+", again", x.Commit(0), api.ErrState)
		wantStuck(t, what, f, false)
		if want == api.OK {
			// The list takes a page more: that one would be no root.
			wantFile(t, what, f, meta.Meta{Txn: 8, End: 12, Main: main, Free: 11}, list(11), rec(3, 7), rec(6, 8), rec(7, 9), rec(8, 5))
			continue
		}
		if d.Calls() != calls {
			t.Errorf("%s: %d calls of the disk", what, d.Calls()-calls)
		}
		wantContent(t, what, d, before)
		wantFile(t, what, f, meta.Meta{Txn: 7, End: 10, Main: 2, Free: 5}, list(5), rec(0, 6), rec(3, 7), rec(6, 8), rec(7, 9))
	}
}

func TestP114CommitOfOneThatIsOver(t *testing.T) {
	f := opened(t, blank(t, 512, 9))
	x := begun(t, f, 9)
	x.Abort()
	wantErr(t, "aborted", x.Commit(0), api.ErrState)
	wantErr(t, "aborted, of 1", x.Commit(1), api.ErrState)
	x = begun(t, f, 9)
	done(t, x, 0)
	wantOver(t, "committed", x, true)
	wantErr(t, "committed", x.Commit(0), api.ErrState)
	wantNotRead(t, "committed", x, 2, api.ErrState)
	wantNew(t, "committed", x, page(1), 0, api.ErrState)
	wantErr(t, "committed", x.Free(2), api.ErrState)
	wantFile(t, "committed once", f, meta.Meta{Txn: 2, End: 2}, nil)
}

func TestP114CommitOfOneThatDidNothing(t *testing.T) {
	d := blank(t, 512, 9)
	f := opened(t, d)
	for txn := uint64(2); txn < 6; txn++ {
		calls := d.Calls()
		done(t, begun(t, f, 9), 0)
		if d.Calls() != calls+3 {
			t.Errorf("%d calls of the disk, want sync, write, sync", d.Calls()-calls)
		}
		d.Crash(nil)
		wantFile(t, "nothing", f, meta.Meta{Txn: txn, End: 2}, nil)
		wantFile(t, "nothing, opened", opened(t, d), meta.Meta{Txn: txn, End: 2}, nil)
	}
	wantContent(t, "nothing", d, [][]byte{metaPage(meta.Meta{Txn: 4, End: 2}), metaPage(meta.Meta{Txn: 5, End: 2})})
	// With lists: these change, and nothing else.
	d = mixed(t, 20)
	f = opened(t, d)
	done(t, begun(t, f, 9), 2)
	want := func(what string) {
		t.Helper()
		// The new list takes page 6, so that 5 is let go of.
		wantFile(t, what, f, meta.Meta{Txn: 8, End: 10, Main: 2, Free: 6}, list(6), rec(0, 7, 8), rec(7, 9), rec(8, 5))
	}
	want("with lists")
	d.Crash(nil)
	f = opened(t, d)
	want("with lists, opened")
}

func TestP114WhatIsThere(t *testing.T) {
	d := mixed(t, 20)
	f := opened(t, d)
	x := begun(t, f, 5) // 6 and 7 may be used
	wantNew(t, "New", x, page(40), 6, api.OK)
	wantNew(t, "New", x, page(41), 7, api.OK)
	wantNew(t, "New", x, page(42), 10, api.OK)
	wantNew(t, "New", x, page(43), 11, api.OK)
	released(t, x, 3, 7, 10)
	done(t, x, 11)
	// Free: 10, 8 and 9, which wait, and 3 and 5, which are gone; the list stands in 7.
	m := meta.Meta{Txn: 8, End: 12, Main: 11, Free: 7}
	want := []freed.Pair{pair(0, 10), pair(6, 8), pair(7, 9), pair(8, 3), pair(8, 5)}
	wantFile(t, "committed", f, m, list(7), freed.Gather(want)...)
	before := content(t, mixed(t, 20))
	before = append(before, page(0), page(43)) // 10 was let go of: it wasn't written
	before[6], before[7], before[0] = page(40), listPage(0, want...), metaPage(m)
	wantContent(t, "committed", d, before)
	d.Crash(nil)
	wantContent(t, "behind a crash", d, before)
	f = opened(t, d)
	wantFile(t, "opened", f, m, list(7), freed.Gather(want)...)
	wantRead(t, "opened", f, 11, page(43))
	wantRead(t, "opened", f, 6, page(40))
	wantRead(t, "opened", f, 3, page(3))
}

// The file's lists are let go of: who did so already, did it wrong.
func TestP114ListsThatWereLetGoOf(t *testing.T) {
	d := mixed(t, 20)
	f := opened(t, d)
	x := begun(t, f, 9)
	released(t, x, 5)
	before := content(t, d)
	wantErr(t, "the list was let go of", x.Commit(2), api.ErrCorrupt)
	wantOver(t, "the list was let go of", x, true)
	wantContent(t, "the list was let go of", d, before)
	// Main is asked first.
	x = begun(t, f, 9)
	released(t, x, 5)
	wantErr(t, "and no root", x.Commit(1), api.ErrArg)
	// A list that is told free by itself.
	d = laid(t, 9, 20, map[int][]byte{1: metaPage(meta.Meta{Txn: 5, End: 9, Free: 4}), 4: listPage(6, pair(2, 6)), 6: listPage(0)})
	f = opened(t, d)
	before = content(t, d)
	wantErr(t, "a list that is free", begun(t, f, 9).Commit(0), api.ErrCorrupt)
	wantContent(t, "a list that is free", d, before)
	wantStuck(t, "a list that is free", f, false)
}

// free is a file of n free pages, of change 1, and of a change far behind.
func free(t *testing.T, n, limit int) *disk.Disk {
	t.Helper()
	var pairs []freed.Pair
	for i := range n {
		pairs = append(pairs, pair(1, api.Page(2+i)))
	}
	rows, e := freed.Spread(pairs, freed.Many(n, 512), 512)
	wantErr(t, "Spread", e, api.OK)
	first := 2 + n
	m := meta.Meta{Txn: 9, End: api.Page(first + len(rows))}
	pages := map[int][]byte{}
	for i, row := range rows {
		next := 0
		if i+1 < len(rows) {
			next = first + i + 1
		}
		pages[first+i] = listPage(api.Page(next), row...)
		m.Free = api.Page(first)
	}
	pages[1] = metaPage(m)
	return laid(t, int(m.End), limit, pages)
}

func TestP114ManyLists(t *testing.T) {
	for _, x := range []struct {
		n      int // pages are free; the lists are more
		oldest uint64
		end    api.Page
		lists  []api.Page
	}{
		// None may be used: each list is a page more.
		{1, 0, 5, list(4)},                    // free: 2; gone: 3
		{41, 0, 45, list(44)},                 // 41 and 1: 42
		{42, 0, 47, list(45, 46)},             // 42 and 1
		{82, 0, 88, list(86, 87)},             // 82 and 2: 84
		{83, 0, 90, list(87, 88, 89)},         // 83 and 2
		{200, 0, 212, all(207, 212)},          // 200 and 5
		{1, 1, 4, list(2)},                    // 2 is taken; gone: 3
		{42, 1, 45, list(2)},                  // 42 and 1, of which one is taken
		{43, 1, 47, list(2, 3)},               // 43 and 2, of which two are taken
		{44, 1, 48, list(2, 3)},               // 44 and 2, of which two are taken
		{84, 1, 88, list(2, 3)},               // 84 and 2, of which two are taken: 84
		{85, 1, 90, list(2, 3, 4)},            // 85 and 3, of which three are taken: 85
		{126, 1, 131, list(2, 3, 4)},          // 126
		{127, 1, 133, list(2, 3, 4, 5)},       // 127
		{2000, 1, 2050, all(2, 50)},           // 2000 and 48, less 48
		{2000, 0, 2050 + 49, all(2050, 2099)}, // 2000 and 48
	} {
		what := strconv.Itoa(x.n) + " pages are free, oldest " + strconv.FormatUint(x.oldest, 10)
		d := free(t, x.n, 65536)
		f := opened(t, d)
		old := f.Lists()
		done(t, begun(t, f, x.oldest), 0)
		m := meta.Meta{Txn: 10, End: x.end, Free: x.lists[0]}
		rest := slices.DeleteFunc(all(2, api.Page(2+x.n)), func(p api.Page) bool { return slices.Contains(x.lists, p) })
		want := recs(rec(x.oldest^1, rest...), rec(10, old...))
		if len(rest) == 0 {
			want = want[1:]
		}
		wantFile(t, what, f, m, x.lists, want...)
		d.Crash(nil)
		wantFile(t, what+", opened", opened(t, d), m, x.lists, want...)
		flat := freed.Flat(want)
		for i, p := range x.lists {
			next := api.Page(0)
			if i+1 < len(x.lists) {
				next = x.lists[i+1]
			}
			n := min(42, len(flat))
			wantRead(t, what, f, p, listPage(next, flat[:n]...))
			flat = flat[n:]
		}
	}
}

// The page that a list takes may be the last one that it would have told of.
func TestP114AListOfNothing(t *testing.T) {
	d := laid(t, 4, 9, map[int][]byte{0: metaPage(meta.Meta{Txn: 6, End: 4, Free: 3}), 3: listPage(0, pair(0, 2))})
	f := opened(t, d)
	x := begun(t, f, 9)
	wantNew(t, "New", x, page(1), 2, api.OK)
	wantNew(t, "New", x, page(1), 4, api.OK)
	released(t, x, 4)
	done(t, x, 2) // 4 is usable, 3 gone: the list takes 4, and tells of 3
	wantFile(t, "one of two", f, meta.Meta{Txn: 7, End: 5, Main: 2, Free: 4}, list(4), rec(7, 3))
	f = opened(t, blank(t, 512, 9))
	x = begun(t, f, 9)
	added(t, x, 1)
	released(t, x, 2)
	done(t, x, 0)
	wantFile(t, "one of one", f, meta.Meta{Txn: 2, End: 3, Free: 2}, list(2))
	wantRead(t, "one of one", f, 2, listPage(0))
	// Of 43 pages, one usable: one list is enough, when it takes that one.
	pairs := []freed.Pair{pair(0, 2)}
	for p := api.Page(3); p < 44; p++ {
		pairs = append(pairs, pair(5, p))
	}
	d = laid(t, 45, 99, map[int][]byte{0: metaPage(meta.Meta{Txn: 6, End: 45, Free: 44}), 44: listPage(0, pairs...)})
	f = opened(t, d)
	done(t, begun(t, f, 1), 0)
	wantFile(t, "42 of 43", f, meta.Meta{Txn: 7, End: 45, Free: 2}, list(2), rec(5, all(3, 44)...), rec(7, 44))
	// Of 85, one usable: the second list is a page more.
	pairs = []freed.Pair{pair(0, 2)}
	for p := api.Page(3); p < 85; p++ {
		pairs = append(pairs, pair(5, p))
	}
	d = laid(t, 87, 99, map[int][]byte{0: metaPage(meta.Meta{Txn: 6, End: 87, Free: 85}), 85: listPage(86, pairs[:42]...), 86: listPage(0, pairs[42:]...)})
	f = opened(t, d)
	done(t, begun(t, f, 1), 0)
	wantFile(t, "84 of 85", f, meta.Meta{Txn: 7, End: 88, Free: 2}, list(2, 87), rec(5, all(3, 85)...), rec(7, 85, 86))
}

func TestP114ADiskThatIsFull(t *testing.T) {
	d := blank(t, 512, 4)
	f := opened(t, d)
	x := begun(t, f, 9)
	added(t, x, 1, 2)
	wantNew(t, "full", x, page(3), 0, api.ErrFull)
	done(t, x, 2) // no list is needed
	wantFile(t, "full", f, meta.Meta{Txn: 2, End: 4, Main: 2}, nil)
	before := content(t, d)
	x = begun(t, f, 9)
	released(t, x, 3)
	wantErr(t, "no room for the list", x.Commit(2), api.ErrFull)
	wantOver(t, "no room for the list", x, true)
	wantStuck(t, "no room for the list", f, false)
	wantFile(t, "no room for the list", f, meta.Meta{Txn: 2, End: 4, Main: 2}, nil)
	wantContent(t, "no room for the list", d, before)
	if d.Loose() != 0 {
		t.Errorf("%d writes", d.Loose())
	}
	// The second list finds no room, though the first one did.
	d = free(t, 42, 46)
	f = opened(t, d)
	before = content(t, d)
	wantErr(t, "no room for the second list", begun(t, f, 0).Commit(0), api.ErrFull)
	wantContent(t, "no room for the second list", d, before)
	done(t, begun(t, f, 9), 0)
}

// The disk has lost its pages, and its limit: no call panics.
func TestP114ADiskWithoutItsPages(t *testing.T) {
	d := laid(t, 3, 20, map[int][]byte{1: metaPage(meta.Meta{Txn: 5, End: 3}), 2: page(9)})
	f := opened(t, d)
	x := begun(t, f, 9)
	added(t, x, 1)
	*d = disk.Disk{}
	if e := x.Commit(3); e == api.OK {
		t.Error("a commit to a disk that has no pages")
	}
	wantFile(t, "a disk that has no pages", f, meta.Meta{Txn: 5, End: 3}, nil)
	wantStuck(t, "a disk that has no pages", f, false)
}

// A change knows nothing of what another one committed since it began, and would write over it.
func TestP114AChangeThatAnotherOneOvertook(t *testing.T) {
	d := blank(t, 512, 20)
	f := opened(t, d)
	a, b, c := begun(t, f, 9), begun(t, f, 9), begun(t, f, 9)
	added(t, a, 1)
	added(t, b, 2)
	added(t, c, 3)
	done(t, a, 2)
	before := content(t, d)
	wantErr(t, "overtaken", b.Commit(2), api.ErrState)
	wantOver(t, "overtaken", b, true)
	wantContent(t, "overtaken", d, before)
	wantRead(t, "what was committed", f, 2, page(1))
	done(t, begun(t, f, 9), 2)
	wantErr(t, "overtaken twice", c.Commit(2), api.ErrState)
	wantFile(t, "overtaken twice", f, meta.Meta{Txn: 3, End: 3, Main: 2}, nil)
	// Of one whose end isn't known likewise: it may be there behind a crash.
	a, b = begun(t, f, 9), begun(t, f, 9)
	added(t, a, 4)
	added(t, b, 5)
	d.Fail(4) // grow, write, sync, write, sync
	wantErr(t, "stuck", a.Commit(3), api.ErrIO)
	wantStuck(t, "stuck", f, true)
	wantErr(t, "overtaken by one whose end isn't known", b.Commit(3), api.ErrState)
	d.Crash([]byte{1})
	f = opened(t, d)
	wantFile(t, "behind a crash", f, meta.Meta{Txn: 4, End: 4, Main: 3}, nil)
	wantRead(t, "behind a crash", f, 3, page(4))
	// One that was aborted, or failed, overtakes nobody.
	a, b, c = begun(t, f, 9), begun(t, f, 9), begun(t, f, 9)
	added(t, a, 6)
	added(t, b, 7)
	added(t, c, 8)
	a.Abort()
	d.Fail(2)
	wantErr(t, "failed", b.Commit(4), api.ErrIO)
	done(t, c, 4)
	wantRead(t, "behind them", f, 4, page(8))
}

// Behind the greatest Txn there is none: nothing is committed any more, and nothing is spoiled.
func TestP114TheGreatestTxn(t *testing.T) {
	m := meta.Meta{Txn: math.MaxUint64 - 1, End: 4, Main: 3, Free: 2}
	d := laid(t, 4, 9, map[int][]byte{0: metaPage(m), 2: listPage(0), 3: page(9)})
	f := opened(t, d)
	done(t, begun(t, f, math.MaxUint64), 3)
	m = meta.Meta{Txn: math.MaxUint64, End: 5, Main: 3, Free: 4}
	wantFile(t, "the greatest", f, m, list(4), rec(math.MaxUint64, 2))
	for range 3 {
		x := begun(t, f, math.MaxUint64)
		added(t, x, 1)
		if e := x.Commit(3); e == api.OK {
			t.Error("a commit behind the greatest Txn")
		}
		wantFile(t, "behind the greatest", f, m, list(4), rec(math.MaxUint64, 2))
		wantStuck(t, "behind the greatest", f, false)
	}
	d.Crash([]byte{255, 255, 255, 255})
	f = opened(t, d)
	wantFile(t, "opened", f, m, list(4), rec(math.MaxUint64, 2))
	wantRead(t, "opened", f, 3, page(9))
}
