package pager

import (
	"testing"

	"rubricator/api"
	"rubricator/disk"
)

// wantOK ends a test whose file can't be made.
func wantOK(t *testing.T, l ...api.Errno) {
	t.Helper()
	for _, e := range l {
		if e != api.OK {
			t.Fatalf("error %d", e)
		}
	}
}

// A page that New didn't tell is fresh only when a commit has taken it, and a change is over then: no call from outside leads there.
func TestP113ReadOfAFreshPageThatNewDidNotTell(t *testing.T) {
	d, e := disk.New(512, 9)
	f, e2 := Open(d)
	wantOK(t, e, e2)
	x, e := f.Begin(9)
	wantOK(t, e)
	own, e := x.New(make([]byte, 512))
	wantOK(t, e, x.Commit(own))
	x, e = f.Begin(9)
	wantOK(t, e, x.Free(own), x.Commit(0))
	for range 2 { // till a page of the file's may be used
		x, e = f.Begin(9)
		wantOK(t, e, x.Commit(0))
	}
	x, e = f.Begin(9)
	p, e2 := x.draft.space.Take()
	wantOK(t, e, e2)
	if _, e := f.Read(p); e != api.OK {
		t.Fatalf("Read of %d, which is to be the file's: error %d", p, e)
	}
	if b, e := x.Read(p); e != api.ErrCorrupt || b != nil {
		t.Errorf("Read of %d, which is fresh, and which New didn't tell: error %d", p, e)
	}
}

// The errors of a disk, each one: two are told as they are.
func TestP111ErrorsOfTheDisk(t *testing.T) {
	for e := api.Errno(-1); e < 50; e++ {
		want := api.ErrCorrupt
		if e == api.OK || e == api.ErrIO || e == api.ErrFull {
			want = e
		}
		if got := diskError(e); got != want {
			t.Errorf("error %d of the disk is told as %d, want %d", e, got, want)
		}
	}
}
