package tree_test

import (
	"math"
	"math/rand/v2"
	"strconv"
	"strings"
	"testing"

	"rubricator/api"
	"rubricator/disk"
	"rubricator/pager"
	"rubricator/tree"
)

// P12.2

// What is told first, where several errors might be.
func TestP122TheFirstError(t *testing.T) {
	f := opened(t, blank(t, 512, 99))
	x, over := begun(t, f, 1), begun(t, f, 1)
	over.Abort()
	big, bigger := text(32769, 1), text(100000, 1)
	for _, root := range []api.Page{0, 1, 2, 99, math.MaxUint32} {
		for _, key := range []string{"", "a", long("a"), long("a") + "a"} {
			for _, value := range []string{"", "b", big} {
				wantNoPut(t, "a nil t", nil, root, key, value, api.ErrArg)
			}
			wantNoCut(t, "a nil t", nil, root, key, api.ErrArg)
		}
		for _, y := range []*pager.Txn{x, over} {
			for _, key := range []string{"", long("a") + "a", text(255, 1), text(256, 1), text(257, 1), text(352, 1)} {
				wantNoPut(t, "a key that may not be", y, root, key, "b", api.ErrArg)
				wantNoPut(t, "a key that may not be, a value that is too great", y, root, key, big, api.ErrArg)
			}
			for _, key := range []string{"a", long("a")} {
				wantNoPut(t, "a value that is too great", y, root, key, big, api.ErrBig)
				wantNoPut(t, "a value that is too great", y, root, key, bigger, api.ErrBig)
			}
		}
		for _, value := range []string{"", "b", text(32768, 1)} {
			wantNoPut(t, "a change that is over", over, root, "a", value, api.ErrState)
		}
		if root != 0 {
			wantNoPut(t, "no page of a tree", x, root, "a", "b", api.ErrCorrupt)
			wantNoCut(t, "no page of a tree", x, root, "a", api.ErrCorrupt)
			wantNoCut(t, "a change that is over", over, root, "a", api.ErrState)
		}
	}
	wantNoCut(t, "a change that is over, whose tree isn't read", over, 0, "a", api.OK)
	// None of these took a page.
	wantErr(t, "Commit", x.Commit(0), api.OK)
	wantPages(t, "none", nil, upTo(f.Meta().End))
}

func TestP122TheExample(t *testing.T) {
	x := begun(t, opened(t, blank(t, 512, 99)), 1)
	a, e := tree.Put(x, 0, []byte("a"), []byte("1"))
	wantErr(t, "Put of a", e, api.OK)
	b, e := tree.Put(x, a, []byte("b"), []byte("2"))
	wantErr(t, "Put of b", e, api.OK)
	c, is, e := tree.Cut(x, b, []byte("a"))
	wantErr(t, "Cut of a", e, api.OK)
	wantGet(t, "behind them", x, c, "b", "2")
	wantNone(t, "behind them", x, c, "a", api.OK)
	if !is {
		t.Error("Cut of a tells that it wasn't there")
	}
}

func TestP122RootZero(t *testing.T) {
	for _, size := range sizes() {
		w := newWorld(t, size)
		w.cut("a")
		w.cut("")
		w.cut(long("a") + "a")
		w.put("a", "")
		w.commit()
		w.cut("a")
		w.commit()
		if w.root != 0 {
			t.Errorf("root %d, of none", w.root)
		}
	}
}

// Values of none, of the most bytes that a leaf's entry can hold, of one more, of as many as may be.
func TestP122KeysAndValues(t *testing.T) {
	for _, size := range sizes() {
		for _, key := range []string{"a", "\x00", "\xff", "ab", long("")[:95], long(""), strings.Repeat("\xff", 96)} {
			most := mostHere(size, len(key))
			for _, n := range []int{0, 1, most - 1, most, most + 1, size - 8, size - 7, 32767, 32768} {
				w := newWorld(t, size)
				w.put(key, text(n, 1))
				wantGet(t, "put", w.x, w.root, key, text(n, 1))
				want := 0
				if n > most {
					want = (n + size - 9) / (size - 8)
				}
				if len(w.now.far) != want || len(w.now.leaves) != 1 {
					t.Errorf("%d bytes, %d of the key, %d of a page: %d pages", n, len(key), size, len(w.now.far))
				}
				w.commit()
				wantGet(t, "committed", w.f, w.root, key, text(n, 1))
				w.cut(key)
				w.commit()
			}
		}
	}
}

// A key that is there gets another value: each with each.
func TestP122AnotherValue(t *testing.T) {
	for _, size := range []int{512, 4096} {
		most := mostHere(size, 1)
		lengths := []int{0, 1, 10, most, most + 1, size - 8, size, 3000, 32768}
		for _, from := range lengths {
			for _, to := range lengths {
				for _, between := range []bool{false, true} {
					w := newWorld(t, size)
					w.put("a", "first")
					w.put("c", "last")
					w.put("b", text(from, 1))
					if between {
						w.commit()
					}
					w.put("b", text(to, 2))
					w.put("b", text(to, 3))
					w.commit()
				}
			}
		}
	}
}

// Values that shrink and grow in trees of many leaves: pages are split, joined and filled up.
func TestP122ValuesShrinkAndGrow(t *testing.T) {
	for _, size := range []int{512, 1024} {
		w := newWorld(t, size)
		for i := range 60 {
			w.put(number(i), text(mostHere(size, 4), i))
		}
		w.commit()
		for i := range 60 {
			w.put(number(i*7%60), "")
		}
		w.commit()
		if len(w.now.leaves) > 4*512/size {
			t.Errorf("%d leaves of 60 keys without values", len(w.now.leaves))
		}
		for i := range 60 {
			w.put(number(i*11%60), text(i*9, i))
		}
		w.commit()
		for i := range 60 {
			w.put(number(59-i), text(i%3, i))
		}
		w.commit()
	}
}

func number(i int) string { return strconv.Itoa(1000 + i) }

func TestP122CutOfWhatIsNotThere(t *testing.T) {
	w := newWorld(t, 512)
	for i := range 50 {
		w.put(number(2*i), text(60, i))
	}
	w.commit()
	before := content(t, w.d)
	for _, x := range []*pager.Txn{w.x, begun(t, w.f, 1)} {
		w.x = x
		for i := range 51 {
			w.cut(number(2*i - 1))
		}
		w.cut("")
		w.cut("\xff")
		w.cut(long("9") + "9")
		w.cut(text(300, 1))
		// No page was taken, and none let go of.
		for _, p := range w.now.pages() {
			wantErr(t, "Free of a page of the tree", x.Free(p), api.OK)
		}
		p, e := x.New(make([]byte, 512))
		if e != api.OK || p != w.f.Meta().End {
			t.Errorf("New is %d, error %d", p, e)
		}
		x.Abort()
	}
	if string(content(t, w.d)) != string(before) {
		t.Error("the disk has other pages")
	}
}

func TestP122CutOfFarValues(t *testing.T) {
	w := newWorld(t, 512)
	for i := range 12 {
		w.put(number(i), text(300*i, i))
	}
	w.commit()
	for i := range 12 {
		w.cut(number(i * 5 % 12))
		if i == 6 {
			w.commit()
		}
	}
	w.commit()
	if w.root != 0 {
		t.Errorf("root %d, of none", w.root)
	}
}

// What can't be done is told by its error; the change is given up then, and nothing is there of it.
func TestP122FullDisks(t *testing.T) {
	for _, op := range someChanges() {
		w := newWorld(t, 512)
		op.ahead(w)
		w.commit()
		end := int(w.f.Meta().End)
		b := content(t, w.d)
		for limit := end; ; limit++ {
			d, e := disk.From(b, 512, limit)
			wantErr(t, "From", e, api.OK)
			f := opened(t, d)
			x := begun(t, f, 1)
			useUp(x, api.Page(end))
			root, e := op.do(x, w.root)
			if e == api.OK {
				if limit == end {
					t.Errorf("%s: no page was taken", op.name)
				}
				wantHas(t, op.name, look(t, op.name, x, root), op.want(w))
				break
			}
			if e != api.ErrFull || root != 0 {
				t.Fatalf("%s, with room for %d pages more: root %d, error %d", op.name, limit-end, root, e)
			}
			x.Abort()
			wantTold(t, op.name, look(t, op.name, f, w.root), w.now)
		}
	}
}

// useUp takes all free pages below an end.
func useUp(x *pager.Txn, end api.Page) {
	for {
		p, e := x.New(make([]byte, x.Size()))
		if e != api.OK {
			return
		}
		if p >= end {
			x.Free(p)
			return
		}
	}
}

func TestP122DisksThatFail(t *testing.T) {
	for _, op := range someChanges() {
		w := newWorld(t, 512)
		op.ahead(w)
		w.commit()
		for fail := 0; ; fail++ {
			calls := w.d.Calls()
			w.d.Fail(fail)
			root, e := op.do(w.x, w.root)
			w.d.Fail(-1)
			if e == api.OK {
				if w.d.Calls()-calls != fail || fail < 2 {
					t.Errorf("%s: %d calls of the disk, and %d that fail", op.name, w.d.Calls()-calls, fail)
				}
				wantHas(t, op.name, look(t, op.name, w.x, root), op.want(w))
				break
			}
			if e != api.ErrIO || root != 0 {
				t.Fatalf("%s, the call behind %d fails: root %d, error %d", op.name, fail, root, e)
			}
			w.abort()
		}
	}
}

// oneChange is a Put, or a Cut, of a tree that was laid ahead.
type oneChange struct {
	name  string
	ahead func(w *world)
	key   string
	value string
	cuts  bool
}

func (o oneChange) do(x *pager.Txn, root api.Page) (api.Page, api.Errno) {
	if o.cuts {
		p, is, e := tree.Cut(x, root, []byte(o.key))
		if is != (e == api.OK) {
			return 0, -1
		}
		return p, e
	}
	return tree.Put(x, root, []byte(o.key), []byte(o.value))
}

// want is what the tree has then.
func (o oneChange) want(w *world) map[string]string {
	m := map[string]string{}
	for key, value := range w.want {
		if key != o.key {
			m[key] = value
		}
	}
	if !o.cuts {
		m[o.key] = o.value
	}
	return m
}

func someChanges() []oneChange {
	two := func(w *world) {
		for i := range 8 {
			w.put(number(i), text(100, i))
		}
		w.put("2", text(1500, 9))
	}
	three := func(w *world) {
		for i := range 40 {
			w.put(long(number(i)), text(20, i))
		}
	}
	full := func(w *world) {
		for i := range 7 {
			w.put(number(i), text(100, i))
		}
	}
	few := func(w *world) {
		for i := range 5 {
			w.put(number(i), text(100, i))
		}
		w.cut(number(2))
	}
	return []oneChange{
		{"a key more", two, "1002x", "a", false},
		{"a far value more", two, "1002x", text(2000, 1), false},
		{"another value", two, "1003", text(90, 3), false},
		{"a far value over a far one", two, "2", text(3000, 3), false},
		{"a value over a far one", two, "2", "here", false},
		{"a page is split", full, number(7), text(100, 7), false},
		{"pages are split", three, long("1013x"), text(15, 3), false},
		{"a value that shrinks", few, number(1), "", false},
		{"a key less", two, "1002", "", true},
		{"a far value less", two, "2", "", true},
		{"a key less, of three levels", three, long(number(20)), "", true},
		{"pages are joined", few, number(1), "", true},
	}
}

// Pages that aren't as they should be, on the way, or beside it.
func TestP122PagesThatAreNone(t *testing.T) {
	refused := func(what string, lay func(l laid) api.Page, keys ...string) {
		t.Helper()
		for _, key := range keys {
			for i := range 3 {
				l, f := laying(t, 512)
				root := lay(l)
				if i > 0 {
					wantErr(t, "Commit", l.x.Commit(root), api.OK)
					l.x = begun(t, f, 1)
				}
				if i == 2 {
					wantNoCut(t, what, l.x, root, key, api.ErrCorrupt)
					continue
				}
				wantNoPut(t, what, l.x, root, key, "another value", api.ErrCorrupt)
			}
		}
	}
	for name, b := range noPages(t, 512) {
		refused(name+", the root", func(l laid) api.Page { return l.raw(b) }, "\x00", "a", "n")
		refused(name+", a kid", func(l laid) api.Page { return l.branch(kid("", l.leaf("a")), kid("m", l.raw(b))) }, "m", "n")
		refused(name+", its neighbor's", func(l laid) api.Page { return l.branch(kid("", l.leaf("a")), kid("m", l.raw(b))) }, "a")
		refused(name+", the neighbor ahead's", func(l laid) api.Page { return l.branch(kid("", l.raw(b)), kid("m", l.leaf("n"))) }, "n")
	}
	for _, p := range []api.Page{0, 1, 4, 65535, 65536, math.MaxUint32} {
		refused("no child", func(l laid) api.Page {
			l.leaf("a") // page 2
			return l.raw(withChild(t, p, 512))
		}, "a", "m", "n")
	}
	refused("keys out of bounds", func(l laid) api.Page { return l.branch(kid("", l.leaf("a", "n")), kid("m", l.leaf("o"))) }, "a", "o")
	refused("keys out of bounds", func(l laid) api.Page { return l.branch(kid("", l.leaf("a")), kid("m", l.leaf("c", "o"))) }, "a", "o")
	refused("not equally deep", func(l laid) api.Page {
		return l.branch(kid("", l.leaf("a")), kid("m", l.branch(kid("", l.leaf("n")), kid("o", l.leaf("p")))))
	}, "a", "n")
	refused("deeper than 32", func(l laid) api.Page { return deepTree(l, 33) }, "a")
	refused("deeper than 32", func(l laid) api.Page { return deepTree(l, 40) }, "a")
	refused("itself", func(l laid) api.Page { p := l.next(); return l.branch(kid("", p), kid("m", p)) }, "a", "n")
	refused("itself beside it", func(l laid) api.Page { p := l.leaf("a"); return l.branch(kid("", p), kid("m", p+1)) }, "a", "n")
	for name, lay := range cuts() {
		refused("far, "+name, func(l laid) api.Page { return l.entries(entry("a", "b"), farEntry("far", 1200, lay(l))) }, "far")
	}
	refused("far, in its own leaf's page", func(l laid) api.Page { return l.entries(farEntry("far", 1200, l.next())) }, "far")
}

// A root of a change that was let go of is none any more.
func TestP122RootsThatWereLetGoOf(t *testing.T) {
	w := newWorld(t, 512)
	for i := range 9 {
		w.put(number(i), text(100, i))
	}
	w.commit()
	old := w.root
	w.put(number(3), "b")
	wantNoPut(t, "the old root", w.x, old, number(3), "c", api.ErrCorrupt)
	w.abort()
	w.put(number(3), "b")
	wantNoCut(t, "the old root", w.x, old, number(3), api.ErrCorrupt)
	w.abort()
	x := begun(t, w.f, 1)
	own, e := tree.Put(x, 0, []byte("a"), []byte("1"))
	wantErr(t, "Put", e, api.OK)
	none, _, e := tree.Cut(x, own, []byte("a"))
	wantErr(t, "Cut", e, api.OK)
	wantNone(t, "an old root of its own", x, own, "a", api.ErrCorrupt)
	wantNoPut(t, "an old root of its own", x, own, "a", "2", api.ErrCorrupt)
	if none != 0 {
		t.Errorf("root %d, of none", none)
	}
}

// Branches whose keys aren't where they stand can't be joined, nor split.
func TestP122KeysOfBranchesOutOfBounds(t *testing.T) {
	none := func(l laid) api.Page { return l.leaf() }
	for _, x := range []struct {
		key string
		lay func(l laid) api.Page
	}{
		{"n", func(l laid) api.Page {
			left := l.branch(kid("", l.leaf("a")), kid("z", none(l)))
			return l.branch(kid("", left), kid("m", l.branch(kid("", l.leaf("n")), kid("p", l.leaf("q")))))
		}},
		{"a", func(l laid) api.Page {
			right := l.branch(kid("", none(l)), kid("b", l.leaf("n")))
			return l.branch(kid("", l.branch(kid("", l.leaf("a")), kid("c", l.leaf("d")))), kid("m", right))
		}},
	} {
		for _, cuts := range []bool{false, true} {
			l, _ := laying(t, 512)
			root := x.lay(l)
			wantGet(t, "laid", l.x, root, x.key, valueOf(x.key))
			if cuts {
				wantNoCut(t, "its neighbor's keys are out of bounds", l.x, root, x.key, api.ErrCorrupt)
			} else {
				wantNoPut(t, "its neighbor's keys are out of bounds", l.x, root, x.key, "b", api.ErrCorrupt)
			}
		}
	}
}

// A page that is there twice is let go of twice: the change refuses that.
func TestP122TheSamePageTwice(t *testing.T) {
	for _, lay := range []func(l laid) api.Page{
		func(l laid) api.Page { p := l.leaf(); return l.branch(kid("", p), kid("m", p)) },
		func(l laid) api.Page {
			first := l.value(text(1200, 1))
			return l.branch(kid("", l.entries(farEntry("a", 1200, first))), kid("m", l.entries(farEntry("n", 1200, first))))
		},
	} {
		l, f := laying(t, 512)
		root := lay(l)
		wantErr(t, "Commit", l.x.Commit(root), api.OK)
		x := begun(t, f, 1)
		root, e := tree.Put(x, root, []byte("n"), []byte("1"))
		if e == api.OK {
			root, e = tree.Put(x, root, []byte("a"), []byte("1"))
		}
		if e != api.ErrCorrupt || root != 0 {
			t.Errorf("root %d, error %d", root, e)
		}
	}
}

// Pages that lead anywhere, by chance: each call ends, and beside an error it tells nothing.
func TestP122AnyPages(t *testing.T) {
	chance := rand.New(rand.NewPCG(12, 9))
	errors := map[api.Errno]int{}
	told := func(e api.Errno, nothing bool) {
		t.Helper()
		if errors[e]++; e != api.OK && !nothing {
			t.Fatalf("error %d, and an answer", e)
		}
	}
	for range 1500 {
		l, f := laying(t, 512)
		for range 2 + chance.IntN(12) {
			anyPage(l, chance)
		}
		if chance.IntN(2) == 0 {
			wantErr(t, "Commit", l.x.Commit(2), api.OK)
			l.x = begun(t, f, 1)
		}
		for range 8 {
			root, key := api.Page(chance.IntN(15)), anyKey(chance)
			b, is, e := tree.Get(l.x, root, []byte(key))
			told(e, b == nil && !is)
			b, e = tree.Value(l.x, nil, chance.IntN(1200), root)
			told(e, b == nil)
			p, e := tree.Put(l.x, root, []byte(key), []byte(text(chance.IntN(1200), 1)))
			told(e, p == 0)
			p, is, e = tree.Cut(l.x, root, []byte(key))
			told(e, p == 0 && !is)
		}
	}
	if errors[api.OK] < 1000 || errors[api.ErrCorrupt] < 1000 || len(errors) > 2 {
		t.Errorf("errors, and how often: %v", errors)
	}
}

func anyKey(chance *rand.Rand) string { return string([]byte{byte('a' + chance.IntN(12))}) }

// anyPage lays a page of some kind, that leads to whichever pages.
func anyPage(l laid, chance *rand.Rand) {
	l.t.Helper()
	page := func() api.Page { return api.Page(2 + chance.IntN(13)) }
	switch chance.IntN(5) {
	case 0:
		l.chain(api.Page(chance.IntN(15)), text(1+chance.IntN(504), 1))
	case 1:
		l.chain(page(), text(504, 1))
	case 2:
		l.branch(kid("", page()), kid(anyKey(chance), page()))
	case 3:
		l.branch(kid("", page()), kid("e", page()), kid("k", page()))
	case 4:
		first, last := anyKey(chance), anyKey(chance)
		x := entry(first, text(chance.IntN(120), 1))
		if chance.IntN(2) == 0 {
			x = farEntry(first, 1+chance.IntN(1200), page())
		}
		if first < last {
			l.entries(x, entry(last, text(chance.IntN(120), 1)))
			return
		}
		l.entries(x)
	}
}
