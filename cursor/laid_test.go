package cursor_test

import (
	"testing"

	"rubricator/api"
	"rubricator/branch"
	"rubricator/chain"
	"rubricator/disk"
	"rubricator/leaf"
	"rubricator/pager"
)

// Trees, and what are none, laid by hand, in pages of 512.

// laid is a change in which pages are laid, and all entries that stand in its leaves.
type laid struct {
	t   *testing.T
	d   *disk.Disk
	x   *pager.Txn
	has map[string]string
}

// laying is one of a new file.
func laying(t *testing.T) (laid, *pager.File) {
	t.Helper()
	m := plant(t, 512, nil)
	return laid{t, m.d, m.x, map[string]string{}}, m.f
}

func (l laid) raw(b []byte) api.Page {
	l.t.Helper()
	p, e := l.x.New(b)
	wantErr(l.t, "New", e, api.OK)
	return p
}

func (l laid) entries(list ...leaf.Entry) api.Page {
	l.t.Helper()
	b, e := leaf.Put(list, 512)
	wantErr(l.t, "leaf.Put", e, api.OK)
	return l.raw(b)
}

// leaf has keys, each with a value that tells it.
func (l laid) leaf(keys ...string) api.Page {
	l.t.Helper()
	var list []leaf.Entry
	for _, key := range keys {
		l.has[key] = "value of " + key
		list = append(list, entry(key, l.has[key]))
	}
	return l.entries(list...)
}

func (l laid) branch(kids ...branch.Entry) api.Page {
	l.t.Helper()
	b, e := branch.Put(kids, 512)
	wantErr(l.t, "branch.Put", e, api.OK)
	return l.raw(b)
}

// chain lays parts of a far value.
func (l laid) chain(parts ...string) api.Page {
	l.t.Helper()
	var next api.Page
	for i := len(parts) - 1; i >= 0; i-- {
		b, e := chain.Put([]byte(parts[i]), next, 512)
		wantErr(l.t, "chain.Put", e, api.OK)
		next = l.raw(b)
	}
	return next
}

func entry(key, value string) leaf.Entry {
	return leaf.Entry{Key: []byte(key), Value: []byte(value)}
}

func farEntry(key string, long int, first api.Page) leaf.Entry {
	return leaf.Entry{Key: []byte(key), Long: long, First: first}
}

func kid(key string, p api.Page) branch.Entry {
	return branch.Entry{Key: []byte(key), Child: p}
}

// firstKid is the one of a branch's page.
func firstKid(t *testing.T, b []byte) api.Page {
	t.Helper()
	l, e := branch.Get(b)
	wantErr(t, "branch.Get", e, api.OK)
	return l[0].Child
}

// counting is a source that counts what is read of it.
type counting struct {
	pager.Source
	reads int
}

func (c *counting) Read(p api.Page) ([]byte, api.Errno) {
	c.reads++
	return c.Source.Read(p)
}

// failing is a source of which nothing is read; each time it tells another error, from one on.
type failing struct{ next api.Errno }

func (f *failing) Size() int { return 512 }

func (f *failing) Read(api.Page) ([]byte, api.Errno) {
	f.next++
	return nil, f.next - 1
}

// same is a source that tells the same bytes again and again, its own ones.
type same map[api.Page][]byte

func (m same) Size() int                           { return 512 }
func (m same) Read(p api.Page) ([]byte, api.Errno) { return m[p], api.OK }
