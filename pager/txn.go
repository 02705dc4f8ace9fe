package pager

import (
	"maps"
	"slices"

	"rubricator/api"
	"rubricator/disk"
	"rubricator/freed"
	"rubricator/meta"
	"rubricator/space"
)

// Txn is a change.
type Txn struct {
	file  *File
	draft *draft // none: the change is over
}

// draft is what a change made so far.
type draft struct {
	txn   uint64
	space *space.Space
	pages map[api.Page][]byte // those that are written when it is committed
}

// Begin begins a change: pages may be used that no change from one on has.
func (f *File) Begin(oldest uint64) (*Txn, api.Errno) {
	switch {
	case f == nil:
		return nil, api.ErrArg
	case f.stuck:
		return nil, api.ErrState
	}
	m := f.last.meta
	// Should the last commit's meta be spoiled, the one ahead of it counts: its pages must still be there.
	s, e := space.New(m.End, api.Page(f.disk.Limit()), f.Records(), min(oldest, m.Txn-1))
	if e != api.OK {
		return nil, e
	}
	return &Txn{file: f, draft: &draft{txn: m.Txn + 1, space: s, pages: map[api.Page][]byte{}}}, api.OK
}

// Size is how many bytes a page has.
func (t *Txn) Size() int {
	if t == nil {
		return 0
	}
	return t.file.Size()
}

// Read is a page, as it is now.
func (t *Txn) Read(p api.Page) ([]byte, api.Errno) {
	if e := t.state(); e != api.OK {
		return nil, e
	}
	if b, ok := t.draft.pages[p]; ok {
		return slices.Clone(b), api.OK
	}
	if t.draft.space.Fresh(p) {
		return nil, api.ErrCorrupt
	}
	return t.file.Read(p)
}

// New is a new page, of such bytes.
func (t *Txn) New(b []byte) (api.Page, api.Errno) {
	if t == nil || len(b) != t.Size() {
		return none, api.ErrArg
	}
	if e := t.state(); e != api.OK {
		return none, e
	}
	p, e := t.draft.space.Take()
	if e != api.OK {
		return none, e
	}
	t.draft.pages[p] = slices.Clone(b)
	return p, api.OK
}

// Free lets a page go.
func (t *Txn) Free(p api.Page) api.Errno {
	if e := t.state(); e != api.OK {
		return e
	}
	return t.draft.free(p)
}

// Over tells whether it ended.
func (t *Txn) Over() bool { return t == nil || t.draft == nil }

// Abort ends it.
func (t *Txn) Abort() {
	if t != nil {
		t.draft = nil
	}
}

// Commit lets it be there for good, with a root.
func (t *Txn) Commit(main api.Page) api.Errno {
	if e := t.state(); e != api.OK {
		return e
	}
	x := t.draft
	t.Abort()
	switch {
	// It doesn't know what was committed, or may have been, since it began, and would write over it.
	case t.file.stuck || t.file.last.meta.Txn+1 != x.txn:
		return api.ErrState
	case !x.rightMain(main):
		return api.ErrArg
	}
	return t.file.commit(x, main)
}

// state is the error of a change that there isn't, or that is over.
func (t *Txn) state() api.Errno {
	switch {
	case t == nil:
		return api.ErrArg
	case t.Over():
		return api.ErrState
	}
	return api.OK
}

// commit lets what a change made be there for good.
func (f *File) commit(x *draft, main api.Page) api.Errno {
	c, e := x.close(f.last.lists, f.Size())
	if e != api.OK {
		return e
	}
	c.meta.Main = main
	if e := x.write(f.disk); e != api.OK {
		return e
	}
	// All that the meta leads to must be there for good ahead of it.
	if e := f.disk.Sync(); e != api.OK {
		return diskError(e)
	}
	if e := writeMeta(f.disk, c.meta); e != api.OK {
		return e
	}
	if e := f.disk.Sync(); e != api.OK {
		f.stuck = true
		return diskError(e)
	}
	f.last = c
	return api.OK
}

// rightMain tells whether a page may be a root.
func (x *draft) rightMain(p api.Page) bool { return p == none || p >= metas && p < x.space.End() }

// free lets a page go.
func (x *draft) free(p api.Page) api.Errno {
	if x.space.Give(p) != api.OK {
		return api.ErrCorrupt
	}
	delete(x.pages, p)
	return api.OK
}

// close lets new lists stand among its pages, in place of the old ones; what is committed then, but for the root.
func (x *draft) close(old []api.Page, size int) (committed, api.Errno) {
	for _, p := range old {
		if e := x.free(p); e != api.OK {
			return committed{}, e
		}
	}
	lists, e := x.takeLists(size)
	if e != api.OK {
		return committed{}, e
	}
	free := x.freePairs()
	if e := x.putLists(lists, free, size); e != api.OK {
		return committed{}, e
	}
	m := meta.Meta{Txn: x.txn, End: x.space.End(), Free: after(lists, 0)}
	return committed{meta: m, free: free, lists: lists}, api.OK
}

// takeLists takes as many pages as tell of all that are free then.
func (x *draft) takeLists(size int) ([]api.Page, api.Errno) {
	// A page that is taken was usable perhaps: then there is one less to tell of. All others that are free stay so.
	others := len(x.freePairs()) - x.space.Usable()
	var lists []api.Page
	for len(lists) < freed.Many(others+x.space.Usable(), size) {
		p, e := x.space.Take()
		if e != api.OK {
			return nil, e
		}
		lists = append(lists, p)
	}
	return lists, api.OK
}

// putLists lets pages tell which are free, each one part of it, and which is next.
func (x *draft) putLists(lists []api.Page, free []freed.Pair, size int) api.Errno {
	rows, e := freed.Spread(free, len(lists), size)
	if e != api.OK {
		return e
	}
	for i, p := range lists {
		b, e := freed.Put(rows[i], after(lists, i+1), size)
		if e != api.OK {
			return e
		}
		x.pages[p] = b
	}
	return api.OK
}

// freePairs is what is free behind it.
func (x *draft) freePairs() []freed.Pair { return freed.Flat(x.space.Records(x.txn)) }

// write writes its pages to a disk that has room for them.
func (x *draft) write(d *disk.Disk) api.Errno {
	if e := grow(d, x.space.End()); e != api.OK {
		return e
	}
	for _, p := range slices.Sorted(maps.Keys(x.pages)) {
		if e := d.Write(int(p), x.pages[p]); e != api.OK {
			return diskError(e)
		}
	}
	return api.OK
}

// after is the page at a place of a list, none behind its end.
func after(l []api.Page, i int) api.Page {
	if i < len(l) {
		return l[i]
	}
	return none
}
