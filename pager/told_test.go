package pager_test

import (
	"bytes"
	"maps"
	"slices"
	"strconv"
	"testing"

	"rubricator/api"
	"rubricator/disk"
	"rubricator/freed"
	"rubricator/meta"
	"rubricator/pager"
	"rubricator/space"
)

// The words of the chapters, told again: what each page is, and which calls of the disk a commit makes, one behind the other.

type kind int

const (
	ofMeta kind = iota
	inUse
	usable
	waiting
	fresh
	gone
)

// state is what was committed last.
type state struct {
	meta  meta.Meta
	since map[api.Page]uint64 // of free pages
	lists []api.Page
}

// change is a change of it.
type change struct {
	size, limit int
	from        state
	txn         uint64
	kinds       []kind // of each page below its end
	pages       map[api.Page][]byte
}

// step is a call of the disk.
type step func(d *disk.Disk) api.Errno

func stepGrow(n int) step { return func(d *disk.Disk) api.Errno { return d.Grow(n) } }

func stepWrite(p api.Page, b []byte) step {
	return func(d *disk.Disk) api.Errno { return d.Write(int(p), b) }
}

func stepSync(d *disk.Disk) api.Errno { return d.Sync() }

func firstState() state {
	return state{meta: meta.Meta{Txn: 1, End: 2}, since: map[api.Page]uint64{}}
}

func (s state) records() []space.Record { return recordsOf(s.since) }

func recordsOf(since map[api.Page]uint64) []space.Record {
	byTxn := map[uint64][]api.Page{}
	for _, p := range slices.Sorted(maps.Keys(since)) {
		byTxn[since[p]] = append(byTxn[since[p]], p)
	}
	var l []space.Record
	for _, txn := range slices.Sorted(maps.Keys(byTxn)) {
		l = append(l, rec(txn, byTxn[txn]...))
	}
	return l
}

// has are the pages that are in use, the lists too.
func (s state) has() []api.Page {
	var l []api.Page
	for p := api.Page(2); p < s.meta.End; p++ {
		if _, free := s.since[p]; !free {
			l = append(l, p)
		}
	}
	return l
}

func (s state) begin(oldest uint64, size, limit int) *change {
	c := &change{size: size, limit: limit, from: s, txn: s.meta.Txn + 1, pages: map[api.Page][]byte{}}
	for p := range s.meta.End {
		txn, free := s.since[p]
		switch {
		case p < 2:
			c.kinds = append(c.kinds, ofMeta)
		case !free:
			c.kinds = append(c.kinds, inUse)
		case txn <= oldest && txn <= s.meta.Txn-1:
			c.kinds = append(c.kinds, usable)
		default:
			c.kinds = append(c.kinds, waiting)
		}
	}
	return c
}

func (c *change) kindOf(p api.Page) kind {
	if int(p) >= len(c.kinds) {
		return ofMeta
	}
	return c.kinds[p]
}

func (c *change) take() (api.Page, api.Errno) {
	p := slices.Index(c.kinds, usable)
	if p < 0 {
		p = len(c.kinds)
		if p == c.limit {
			return 0, api.ErrFull
		}
		c.kinds = append(c.kinds, usable)
	}
	c.kinds[p] = fresh
	return api.Page(p), api.OK
}

func (c *change) give(p api.Page) api.Errno {
	switch c.kindOf(p) {
	case fresh:
		c.kinds[p] = usable
	case inUse:
		c.kinds[p] = gone
	default:
		return api.ErrCorrupt
	}
	delete(c.pages, p)
	return api.OK
}

func (c *change) add(b []byte) (api.Page, api.Errno) {
	p, e := c.take()
	if e == api.OK {
		c.pages[p] = slices.Clone(b)
	}
	return p, e
}

// since tells of each page that is free behind it.
func (c *change) since() map[api.Page]uint64 {
	m := map[api.Page]uint64{}
	for i, k := range c.kinds {
		p := api.Page(i)
		switch k {
		case usable:
			m[p] = 0
		case waiting:
			m[p] = c.from.since[p]
		case gone:
			m[p] = c.txn
		}
	}
	return m
}

// lay are the pages of the lists, each with 42 pairs of 512 bytes.
func (c *change) lay(lists []api.Page) {
	var pairs []freed.Pair
	for _, r := range recordsOf(c.since()) {
		for _, p := range r.Pages {
			pairs = append(pairs, pair(r.Txn, p))
		}
	}
	room := (c.size - 8) / 12
	for i, p := range lists {
		next := api.Page(0)
		if i+1 < len(lists) {
			next = lists[i+1]
		}
		n := min(room, len(pairs))
		b, e := freed.Put(pairs[:n], next, c.size)
		if e != api.OK {
			panic(e)
		}
		c.pages[p], pairs = b, pairs[n:]
	}
}

// commit tells which calls of the disk are made, and what is committed then.
func (c *change) commit(main api.Page, pagesOnDisk int) ([]step, state, api.Errno) {
	if main == 1 || int(main) >= len(c.kinds) {
		return nil, state{}, api.ErrArg
	}
	for _, p := range c.from.lists {
		if e := c.give(p); e != api.OK {
			return nil, state{}, e
		}
	}
	var lists []api.Page
	for room := (c.size - 8) / 12; len(lists)*room < len(c.since()); {
		p, e := c.take()
		if e != api.OK {
			return nil, state{}, e
		}
		lists = append(lists, p)
	}
	c.lay(lists)
	s := state{meta: meta.Meta{Txn: c.txn, End: api.Page(len(c.kinds)), Main: main}, since: c.since(), lists: lists}
	if len(lists) > 0 {
		s.meta.Free = lists[0]
	}
	var l []step
	if pagesOnDisk < len(c.kinds) {
		l = append(l, stepGrow(len(c.kinds)))
	}
	for _, p := range slices.Sorted(maps.Keys(c.pages)) {
		l = append(l, stepWrite(p, c.pages[p]))
	}
	b, e := meta.Put(s.meta, c.size)
	if e != api.OK {
		panic(e)
	}
	return append(l, stepSync, stepWrite(api.Page(c.txn%2), b), stepSync), s, api.OK
}

// What the tests are made of.

func pair(txn uint64, page api.Page) freed.Pair { return freed.Pair{Txn: txn, Page: page} }

func rec(txn uint64, pages ...api.Page) space.Record { return space.Record{Txn: txn, Pages: pages} }

func recs(l ...space.Record) []space.Record { return l }

func list(l ...api.Page) []api.Page { return l }

// all are pages from one on, below another one.
func all(from, end api.Page) []api.Page {
	var l []api.Page
	for p := from; p < end; p++ {
		l = append(l, p)
	}
	return l
}

// page is a page of 512 bytes, all the same.
func page(c byte) []byte { return bytes.Repeat([]byte{c}, 512) }

func metaPage(m meta.Meta) []byte { return metaOf(m, 512) }

func metaOf(m meta.Meta, size int) []byte {
	b, e := meta.Put(m, size)
	if e != api.OK {
		panic("no meta: " + strconv.Itoa(int(e)))
	}
	return b
}

func listPage(next api.Page, l ...freed.Pair) []byte {
	b, e := freed.Put(l, next, 512)
	if e != api.OK {
		panic("no list: " + strconv.Itoa(int(e)))
	}
	return b
}

// laid is a disk of n pages of 512 bytes, some of them as told, the others of noughts.
func laid(t *testing.T, n, limit int, pages map[int][]byte) *disk.Disk {
	t.Helper()
	b := make([]byte, 512*n)
	for i, page := range pages {
		copy(b[512*i:512*i+512], page)
	}
	d, e := disk.From(b, 512, limit)
	if e != api.OK {
		t.Fatalf("a disk of %d pages: error %d", n, e)
	}
	return d
}

func blank(t *testing.T, size, limit int) *disk.Disk {
	t.Helper()
	d, e := disk.New(size, limit)
	if e != api.OK {
		t.Fatalf("a disk: error %d", e)
	}
	return d
}

func opened(t *testing.T, d *disk.Disk) *pager.File {
	t.Helper()
	f, e := pager.Open(d)
	if e != api.OK || f == nil {
		t.Fatalf("Open: error %d", e)
	}
	return f
}

func begun(t *testing.T, f *pager.File, oldest uint64) *pager.Txn {
	t.Helper()
	x, e := f.Begin(oldest)
	if e != api.OK || x == nil {
		t.Fatalf("Begin of %d: error %d", oldest, e)
	}
	return x
}

// added are pages that New tells, of such bytes.
func added(t *testing.T, x *pager.Txn, l ...byte) []api.Page {
	t.Helper()
	var pages []api.Page
	for _, c := range l {
		p, e := x.New(bytes.Repeat([]byte{c}, x.Size()))
		if e != api.OK {
			t.Fatalf("New: error %d", e)
		}
		pages = append(pages, p)
	}
	return pages
}

func released(t *testing.T, x *pager.Txn, l ...api.Page) {
	t.Helper()
	for _, p := range l {
		wantErr(t, "Free", x.Free(p), api.OK)
	}
}

func done(t *testing.T, x *pager.Txn, main api.Page) {
	t.Helper()
	wantErr(t, "Commit", x.Commit(main), api.OK)
}

func wantErr(t *testing.T, what string, got, want api.Errno) {
	t.Helper()
	if got != want {
		t.Errorf("%s: error %d, want %d", what, got, want)
	}
}

func wantRefused(t *testing.T, what string, d *disk.Disk, want api.Errno) {
	t.Helper()
	if f, e := pager.Open(d); e != want || f != nil {
		t.Errorf("%s: Open tells error %d, want %d, and %v", what, e, want, f)
	}
}

func wantRead(t *testing.T, what string, s pager.Source, p api.Page, want []byte) {
	t.Helper()
	if b, e := s.Read(p); e != api.OK || !bytes.Equal(b, want) {
		t.Errorf("%s: Read of %d: error %d, %s, want %s", what, p, e, show(b), show(want))
	}
}

func wantNotRead(t *testing.T, what string, s pager.Source, p api.Page, want api.Errno) {
	t.Helper()
	if b, e := s.Read(p); e != want || b != nil {
		t.Errorf("%s: Read of %d: error %d, want %d, and %s", what, p, e, want, show(b))
	}
}

func wantNew(t *testing.T, what string, x *pager.Txn, b []byte, want api.Page, e api.Errno) {
	t.Helper()
	if p, is := x.New(b); p != want || is != e {
		t.Errorf("%s: New is %d, error %d; want %d, error %d", what, p, is, want, e)
	}
}

func wantOver(t *testing.T, what string, x *pager.Txn, want bool) {
	t.Helper()
	if x.Over() != want {
		t.Errorf("%s: Over: %t", what, x.Over())
	}
}

func wantStuck(t *testing.T, what string, f *pager.File, want bool) {
	t.Helper()
	if f.Stuck() != want {
		t.Errorf("%s: Stuck: %t", what, f.Stuck())
	}
}

func wantFile(t *testing.T, what string, f *pager.File, m meta.Meta, lists []api.Page, records ...space.Record) {
	t.Helper()
	if got := f.Meta(); got != m {
		t.Errorf("%s: Meta is %v, want %v", what, got, m)
	}
	if got := f.Lists(); !slices.Equal(got, lists) {
		t.Errorf("%s: Lists are %v, want %v", what, got, lists)
	}
	if got := f.Records(); !sameRecords(got, records) {
		t.Errorf("%s: Records are %v, want %v", what, got, records)
	}
}

func wantState(t *testing.T, what string, f *pager.File, s state) {
	t.Helper()
	wantFile(t, what, f, s.meta, s.lists, s.records()...)
}

func sameRecords(a, b []space.Record) bool {
	return slices.EqualFunc(a, b, func(x, y space.Record) bool {
		return x.Txn == y.Txn && slices.Equal(x.Pages, y.Pages)
	})
}

// show tells of a page how many bytes it has, and the first ones of each sector.
func show(b []byte) string {
	s := strconv.Itoa(len(b)) + " bytes"
	for i := 0; i < len(b); i += 128 {
		s += " " + strconv.Itoa(int(b[i]))
	}
	return s
}

// content is what is read of each page of a disk.
func content(t *testing.T, d *disk.Disk) [][]byte {
	t.Helper()
	var l [][]byte
	for i := range d.Len() {
		b, e := d.Read(i)
		if e != api.OK {
			t.Fatalf("page %d of the disk: error %d", i, e)
		}
		l = append(l, b)
	}
	return l
}

func wantContent(t *testing.T, what string, d *disk.Disk, want [][]byte) {
	t.Helper()
	got := content(t, d)
	if len(got) != len(want) {
		t.Errorf("%s: the disk has %d pages, want %d", what, len(got), len(want))
		return
	}
	for i := range got {
		if !bytes.Equal(got[i], want[i]) {
			t.Errorf("%s: page %d of the disk is %s, want %s", what, i, show(got[i]), show(want[i]))
		}
	}
}

// wantSameDisk holds a disk against another one, that had all the calls that it should have had.
func wantSameDisk(t *testing.T, what string, d, twin *disk.Disk) {
	t.Helper()
	if d.Loose() != twin.Loose() {
		t.Errorf("%s: the disk has %d loose writes, want %d", what, d.Loose(), twin.Loose())
	}
	wantContent(t, what, d, content(t, twin))
}
