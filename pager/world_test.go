package pager_test

import (
	"bytes"
	"maps"
	"math"
	"math/rand/v2"
	"slices"
	"strconv"
	"testing"

	"rubricator/api"
	"rubricator/disk"
	"rubricator/meta"
	"rubricator/pager"
)

// world is a file, and beside it a disk that has just the calls that the chapter tells.
type world struct {
	t       *testing.T
	d, twin *disk.Disk
	f       *pager.File
	told    state
	maybe   *state                         // of a commit whose last sync failed
	kept    map[uint64]map[api.Page][]byte // what the commits had in use
}

// pairOf is a change, and the same as told.
type pairOf struct {
	w *world
	x *pager.Txn
	c *change
}

func newWorld(t *testing.T, size, limit int) *world {
	t.Helper()
	w := &world{t: t, d: blank(t, size, limit), twin: blank(t, size, limit), told: firstState(), kept: map[uint64]map[api.Page][]byte{}}
	w.f = opened(t, w.d)
	for _, s := range []step{stepGrow(2), stepWrite(1, metaOf(w.told.meta, size)), stepSync} {
		wantErr(t, "the twin", s(w.twin), api.OK)
	}
	w.keep()
	wantSameDisk(t, "a new one", w.d, w.twin)
	return w
}

// keep keeps what the last commit has in use.
func (w *world) keep() {
	m := map[api.Page][]byte{}
	for _, p := range w.told.has() {
		b, e := w.twin.Read(int(p))
		wantErr(w.t, "the twin's page", e, api.OK)
		m[p] = b
	}
	w.kept[w.told.meta.Txn] = m
}

// wantKept holds the pages of the last two commits, and of all from oldest on, against what they were.
func (w *world) wantKept(what string, oldest uint64) {
	w.t.Helper()
	least := min(oldest, w.told.meta.Txn-1)
	maps.DeleteFunc(w.kept, func(txn uint64, _ map[api.Page][]byte) bool { return txn < least })
	for txn, pages := range w.kept {
		for p, want := range pages {
			if b, e := w.d.Read(int(p)); e != api.OK || !bytes.Equal(b, want) {
				w.t.Errorf("%s: page %d, which commit %d has, is %s, was %s", what, p, txn, show(b), show(want))
			}
			if txn == w.told.meta.Txn {
				wantRead(w.t, what, w.f, p, want)
			}
		}
	}
}

func (w *world) begin(oldest uint64) *pairOf {
	w.t.Helper()
	return &pairOf{w: w, x: begun(w.t, w.f, oldest), c: w.told.begin(oldest, w.d.Size(), w.d.Limit())}
}

func (b *pairOf) add(c byte) api.Page {
	b.w.t.Helper()
	bytesOf := bytes.Repeat([]byte{c}, b.w.d.Size())
	want, e := b.c.add(bytesOf)
	wantNew(b.w.t, "New", b.x, bytesOf, want, e)
	return want
}

func (b *pairOf) free(p api.Page) {
	b.w.t.Helper()
	wantErr(b.w.t, "Free of "+strconv.Itoa(int(p)), b.x.Free(p), b.c.give(p))
}

func (b *pairOf) read(p api.Page) {
	b.w.t.Helper()
	if own, ok := b.c.pages[p]; ok {
		wantRead(b.w.t, "its own", b.x, p, own)
		return
	}
	if p < 2 || p >= b.w.told.meta.End {
		wantNotRead(b.w.t, "none of the file's", b.x, p, api.ErrCorrupt)
		return
	}
	want, e := b.w.twin.Read(int(p))
	wantErr(b.w.t, "the twin", e, api.OK)
	wantRead(b.w.t, "the file's", b.x, p, want)
}

// commit commits, while the call of the disk behind so many fails (none below 0); how many it ought to have made, had none failed.
func (b *pairOf) commit(main api.Page, fail int) int {
	w := b.w
	w.t.Helper()
	what := "Commit of " + strconv.Itoa(int(main)) + ", in which the call behind " + strconv.Itoa(fail) + " fails"
	steps, s, want := b.c.commit(main, w.twin.Len())
	fails := fail >= 0 && fail < len(steps)
	if fails {
		want = api.ErrIO
	}
	w.d.Fail(fail)
	wantErr(w.t, what, b.x.Commit(main), want)
	w.d.Fail(-1)
	for i, s := range steps {
		if i == fail {
			break
		}
		wantErr(w.t, "the twin", s(w.twin), api.OK)
	}
	wantSameDisk(w.t, what, w.d, w.twin)
	wantOver(w.t, what, b.x, true)
	switch {
	case want == api.OK:
		w.told = s
		w.keep()
	case fails && fail == len(steps)-1:
		w.maybe = &s
	}
	wantStuck(w.t, what, w.f, w.maybe != nil)
	wantState(w.t, what, w.f, w.told)
	if x, e := w.f.Begin(9); w.maybe != nil && (e != api.ErrState || x != nil) {
		w.t.Errorf("%s: Begin tells error %d", what, e)
	}
	return len(steps)
}

// crash crashes, and opens again; a commit whose last sync failed is there, if its meta's first sector is.
func (w *world) crash(picks []byte) {
	w.t.Helper()
	w.d.Crash(picks)
	w.twin.Crash(picks)
	w.reopen(len(picks) > 0 && picks[0]&1 == 1)
}

// reopen opens again.
func (w *world) reopen(there bool) {
	w.t.Helper()
	w.f = opened(w.t, w.d)
	wantErr(w.t, "the twin", w.twin.Sync(), api.OK)
	if w.maybe != nil && there {
		w.told = *w.maybe
		w.keep()
	}
	w.maybe = nil
	wantSameDisk(w.t, "opened", w.d, w.twin)
	wantState(w.t, "opened", w.f, w.told)
	wantStuck(w.t, "opened", w.f, false)
}

// The stories that are told below: what was committed, and a change that is committed then.

func storyOfNothing(w *world) (*pairOf, api.Page) { return w.begin(9), 0 }

func storyOfTheFirst(w *world) (*pairOf, api.Page) {
	b := w.begin(9)
	b.add(1)
	p := b.add(2)
	b.free(b.add(3))
	b.add(4)
	return b, p
}

// storyOfMany has pages of each kind: usable, waiting, in use, gone, fresh ones below the end and behind it, and a list.
func storyOfMany(w *world) (*pairOf, api.Page) {
	for txn := range byte(6) {
		b := w.begin(math.MaxUint64)
		for i := range byte(4) {
			b.add(10*txn + i)
		}
		for _, p := range slices.Backward(w.told.has()) {
			if p%3 == api.Page(txn)%3 && !slices.Contains(w.told.lists, p) {
				b.free(p)
			}
		}
		b.commit(0, -1)
	}
	b := w.begin(4)
	for i := range byte(9) {
		b.add(100 + i)
	}
	b.free(b.add(110))
	for _, p := range w.told.has()[:2] {
		b.free(p)
	}
	return b, b.add(111)
}

// storyOfLists lets go of so many pages that the lists are three.
func storyOfLists(w *world) (*pairOf, api.Page) {
	b := w.begin(9)
	for i := range byte(100) {
		b.add(i)
	}
	b.commit(2, -1)
	b = w.begin(9)
	for p := api.Page(2); p < 95; p++ {
		b.free(p)
	}
	b.commit(100, -1)
	b = w.begin(2)
	b.add(7)
	b.free(100)
	return b, 99
}

func stories() map[string]func(w *world) (*pairOf, api.Page) {
	return map[string]func(w *world) (*pairOf, api.Page){
		"nothing": storyOfNothing, "the first": storyOfTheFirst, "many": storyOfMany, "lists": storyOfLists,
	}
}

// P11.4

// Each call of the disk may fail: those ahead of it were made, in order, and none behind it.
func TestP114EachCallOfTheDisk(t *testing.T) {
	for name, story := range stories() {
		t.Run(name, func(t *testing.T) {
			for _, size := range []int{512, 1024} {
				for fail, calls := -1, 0; fail <= calls; fail++ {
					w := newWorld(t, size, 200)
					b, main := story(w)
					before := w.told.meta.Txn
					calls = b.commit(main, fail)
					w.wantKept("behind it", before)
					if there := fail < 0 || fail >= calls; w.told.meta.Txn != before+1 == there {
						t.Errorf("the call behind %d fails: Txn %d, was %d", fail, w.told.meta.Txn, before)
					}
				}
			}
		})
	}
}

// Who fails may try again, but for one that is stuck: that one is opened again.
func TestP114BehindAFailure(t *testing.T) {
	for name, story := range stories() {
		t.Run(name, func(t *testing.T) {
			for fail, calls := 0, 1; fail < calls; fail++ {
				w := newWorld(t, 512, 200)
				b, main := story(w)
				before := w.told.meta.Txn
				calls = b.commit(main, fail)
				if w.maybe != nil {
					w.reopen(true)
				}
				again := w.begin(before)
				p := again.add(201)
				again.add(202)
				again.commit(p, -1)
				w.wantKept("behind the next one", before)
				w.crash(nil)
				w.wantKept("opened", before)
				want := before + 1
				if fail == calls-1 {
					want++
				}
				if w.told.meta.Txn != want {
					t.Errorf("the call behind %d fails: Txn %d, want %d", fail, w.told.meta.Txn, want)
				}
			}
		})
	}
}

// P11.5

func TestP115TheExample(t *testing.T) {
	d := blank(t, 512, 9)
	x := begun(t, opened(t, d), 0)
	p := added(t, x, 77)[0]
	done(t, x, p)
	d.Crash(nil)
	f := opened(t, d)
	wantRead(t, "the page", f, p, page(77))
	if f.Meta().Main != p {
		t.Errorf("Main %d", f.Meta().Main)
	}
}

// A crash ahead of a commit: what is loose is nothing that was committed.
func TestP115ACrashAheadOfACommit(t *testing.T) {
	for name, story := range stories() {
		t.Run(name, func(t *testing.T) {
			w := newWorld(t, 512, 200)
			b, _ := story(w)
			before := w.told.meta.Txn
			b.read(2)
			w.crash([]byte{255, 255, 255})
			w.wantKept("ahead of a commit", before)
			if w.told.meta.Txn != before {
				t.Errorf("Txn %d, was %d", w.told.meta.Txn, before)
			}
		})
	}
}

// A crash within a commit, or behind it, whatever of it is there.
func TestP115ACrashOfACommit(t *testing.T) {
	chance := rand.New(rand.NewPCG(11, 5))
	for name, story := range stories() {
		t.Run(name, func(t *testing.T) {
			for fail, calls := -1, 0; fail <= calls; fail++ {
				for _, picks := range somePicks(chance) {
					w := newWorld(t, 512, 200)
					b, main := story(w)
					before := w.told.meta.Txn
					calls = b.commit(main, fail)
					last := fail == calls-1
					w.crash(picks)
					w.wantKept("behind a crash", before)
					want := before
					if fail < 0 || fail >= calls || last && len(picks) > 0 && picks[0]&1 == 1 {
						want++
					}
					if w.told.meta.Txn != want {
						t.Errorf("the call behind %d fails, picks %v: Txn %d, want %d", fail, picks, w.told.meta.Txn, want)
					}
				}
			}
		})
	}
}

// somePicks are none, all, the first sectors, all but the first ones, and some by chance.
func somePicks(chance *rand.Rand) [][]byte {
	l := [][]byte{nil, bytes.Repeat([]byte{255}, 150), bytes.Repeat([]byte{1}, 150), bytes.Repeat([]byte{254}, 150)}
	for range 4 {
		b := make([]byte, 150)
		for i := range b {
			b[i] = byte(chance.Uint32())
		}
		l = append(l, b)
	}
	return l
}

// If the newer meta is spoiled, the commit ahead of it is there, whole.
func TestP115ASpoiledMeta(t *testing.T) {
	for name, story := range stories() {
		t.Run(name, func(t *testing.T) {
			w := newWorld(t, 512, 200)
			b, main := story(w)
			before := w.told
			b.commit(main, -1)
			wantErr(t, "Write", w.d.Write(int(w.told.meta.Txn%2), page(3)), api.OK)
			f := opened(t, w.d)
			wantState(t, "the one ahead", f, before)
			for p, want := range w.kept[before.meta.Txn] {
				wantRead(t, "the one ahead", f, p, want)
			}
		})
	}
}

// No page that the last two commits, or any from oldest on, have in use is ever written: long rows of changes, with readers, failures, crashes and disks that are full.
func TestP115LongRows(t *testing.T) {
	for seed := range uint64(40) {
		chance := rand.New(rand.NewPCG(seed, 115))
		w := newWorld(t, []int{512, 640, 1024, 4096}[seed%4], 20+chance.IntN(120))
		var reads []uint64
		for range 120 {
			w.live(chance, &reads)
			w.wantKept("seed "+strconv.Itoa(int(seed)), slices.Min(append(reads, w.told.meta.Txn)))
			if t.Failed() {
				t.Fatalf("seed %d", seed)
			}
		}
		if w.told.meta.Txn < 20 {
			t.Errorf("seed %d: only %d commits", seed, w.told.meta.Txn)
		}
	}
}

// live is a step of a long row: readers begin and end, and there is a change, with a crash perhaps.
func (w *world) live(chance *rand.Rand, reads *[]uint64) {
	w.t.Helper()
	switch chance.IntN(4) {
	case 0:
		*reads = append(*reads, w.told.meta.Txn)
	case 1:
		*reads = (*reads)[min(len(*reads), chance.IntN(3)):]
	}
	oldest := slices.Min(append(slices.Clone(*reads), w.told.meta.Txn))
	b := w.begin(oldest)
	main := b.some(chance)
	switch chance.IntN(12) {
	case 0:
		b.x.Abort()
	case 1:
		b.commit(1, -1)
	case 2, 3, 4:
		b.commit(main, chance.IntN(12))
		if w.maybe != nil || chance.IntN(2) == 0 {
			w.crash(somePicks(chance)[chance.IntN(8)])
			*reads = nil
		}
	case 5:
		b.commit(main, -1)
		w.crash(nil)
		*reads = nil
	default:
		b.commit(main, -1)
	}
}

// some is what a change does, by chance; its root.
func (b *pairOf) some(chance *rand.Rand) api.Page {
	b.w.t.Helper()
	main := api.Page(0)
	adds, frees := chance.IntN(8), chance.IntN(8)
	for range adds {
		if p := b.add(byte(chance.Uint32())); p != 0 {
			main = p
		}
	}
	for range frees {
		p := api.Page(chance.IntN(int(b.w.told.meta.End) + adds + 3))
		if slices.Contains(b.w.told.lists, p) && chance.IntN(20) > 0 {
			continue
		}
		b.free(p)
	}
	for range 5 {
		b.read(api.Page(chance.IntN(int(b.w.told.meta.End) + 3)))
	}
	return main
}

// P11.1 and P11.4: what a commit writes is what Open reads, in a disk of the greatest limit too.
func TestP114TheGreatestLimit(t *testing.T) {
	d := blank(t, 512, 65536)
	f := opened(t, d)
	x := begun(t, f, 9)
	for p := api.Page(2); p < 65536; p++ {
		if got, e := x.New(page(byte(p))); got != p || e != api.OK {
			t.Fatalf("New: %d, error %d, want %d", got, e, p)
		}
	}
	wantNew(t, "full", x, page(1), 0, api.ErrFull)
	done(t, x, 65535)
	x = begun(t, f, 9)
	wantErr(t, "one that did nothing, of a full disk", x.Commit(2), api.OK)
	x = begun(t, f, 9)
	released(t, x, 5)
	wantErr(t, "no room for a list", x.Commit(2), api.ErrFull)
	d.Crash(nil)
	f = opened(t, d)
	wantFile(t, "full", f, meta.Meta{Txn: 3, End: 65536, Main: 2}, nil)
	wantRead(t, "full", f, 65535, page(255))
}

// As many pages as may be are free: all but those of the lists.
func TestP114TheMostFreePages(t *testing.T) {
	const n = 63975 // and 1524 lists
	d := free(t, n, 65536)
	f := opened(t, d)
	if many := len(f.Lists()); many != 1524 {
		t.Fatalf("%d lists", many)
	}
	old := f.Lists()
	done(t, begun(t, f, 9), 0)
	if l := f.Lists(); len(l) != 1524 || l[0] != 2 || l[1523] != 1525 {
		t.Errorf("%d lists: %v ..", len(l), l[:2])
	}
	want := recs(rec(0, all(1526, n+2)...), rec(10, old...))
	wantFile(t, "committed", f, meta.Meta{Txn: 10, End: n + 2 + 1524, Free: 2}, f.Lists(), want...)
	wantFile(t, "opened", opened(t, d), f.Meta(), f.Lists(), want...)
}
