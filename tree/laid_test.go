package tree_test

import (
	"slices"
	"testing"

	"rubricator/api"
	"rubricator/branch"
	"rubricator/chain"
	"rubricator/leaf"
	"rubricator/pager"
)

// Trees, and what are none, laid by hand.

// laid is a change in which pages are laid.
type laid struct {
	t *testing.T
	x *pager.Txn
}

// laying is one of a new file.
func laying(t *testing.T, size int) (laid, *pager.File) {
	t.Helper()
	f := opened(t, blank(t, size, 65536))
	return laid{t, begun(t, f, 1)}, f
}

// everywhere lays something in a change, and has it held against what it should be there, in the file, and in a next change.
func everywhere(t *testing.T, size int, lay func(l laid) api.Page, hold func(what string, s pager.Source, root api.Page)) {
	t.Helper()
	l, f := laying(t, size)
	root := lay(l)
	hold("in a change", l.x, root)
	wantErr(t, "Commit", l.x.Commit(root), api.OK)
	hold("in the file", f, root)
	hold("in the next change", begun(t, f, 1), root)
}

// next is the page that is laid next, of a new file's.
func (l laid) next() api.Page {
	l.t.Helper()
	p := l.raw(make([]byte, l.x.Size()))
	wantErr(l.t, "Free", l.x.Free(p), api.OK)
	return p
}

func (l laid) raw(b []byte) api.Page {
	l.t.Helper()
	p, e := l.x.New(b)
	wantErr(l.t, "New", e, api.OK)
	return p
}

func (l laid) entries(list ...leaf.Entry) api.Page {
	l.t.Helper()
	b, e := leaf.Put(list, l.x.Size())
	wantErr(l.t, "leaf.Put", e, api.OK)
	return l.raw(b)
}

// leaf has keys, each with its valueOf.
func (l laid) leaf(keys ...string) api.Page {
	l.t.Helper()
	var list []leaf.Entry
	for _, key := range keys {
		list = append(list, entry(key, valueOf(key)))
	}
	return l.entries(list...)
}

func (l laid) branch(kids ...branch.Entry) api.Page {
	l.t.Helper()
	b, e := branch.Put(kids, l.x.Size())
	wantErr(l.t, "branch.Put", e, api.OK)
	return l.raw(b)
}

// chain lays parts, the last one with such a page behind it.
func (l laid) chain(next api.Page, parts ...string) api.Page {
	l.t.Helper()
	for _, part := range slices.Backward(parts) {
		b, e := chain.Put([]byte(part), next, l.x.Size())
		wantErr(l.t, "chain.Put", e, api.OK)
		next = l.raw(b)
	}
	return next
}

// value lays a far value, as it should be.
func (l laid) value(s string) api.Page {
	l.t.Helper()
	var parts []string
	for _, part := range chain.Cut([]byte(s), l.x.Size()) {
		parts = append(parts, string(part))
	}
	return l.chain(0, parts...)
}

func entry(key, value string) leaf.Entry {
	return leaf.Entry{Key: []byte(key), Value: []byte(value)}
}

func farEntry(key string, long int, first api.Page) leaf.Entry {
	return leaf.Entry{Key: []byte(key), Long: long, First: first}
}

func kid(key string, p api.Page) branch.Entry {
	return branch.Entry{Key: []byte(key), Child: p}
}

func valueOf(key string) string { return "value of " + key[:min(len(key), 8)] }

// withChild is a branch's page whose last kid is another page, whichever.
func withChild(t *testing.T, p api.Page, size int) []byte {
	t.Helper()
	b, e := branch.Put([]branch.Entry{kid("", 2), kid("m", 2)}, size)
	wantErr(t, "branch.Put", e, api.OK)
	at := len(b) - 5 - 6 + 2 // the first cell has 5 bytes, the second one 6
	b[at], b[at+1], b[at+2], b[at+3] = byte(p>>24), byte(p>>16), byte(p>>8), byte(p)
	return b
}

// counting is a source that counts what is read of it.
type counting struct {
	pager.Source
	reads int
}

func (c *counting) Read(p api.Page) ([]byte, api.Errno) {
	c.reads++
	return c.Source.Read(p)
}

// failing is a source of which nothing is read.
type failing api.Errno

func (f failing) Size() int                         { return 512 }
func (f failing) Read(api.Page) ([]byte, api.Errno) { return nil, api.Errno(f) }

// same is a source that tells the same bytes again and again, its own ones.
type same map[api.Page][]byte

func (m same) Size() int                           { return 512 }
func (m same) Read(p api.Page) ([]byte, api.Errno) { return m[p], api.OK }
