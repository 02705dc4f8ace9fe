package cursor_test

import (
	"maps"
	"math"
	"slices"
	"testing"

	"rubricator/api"
	"rubricator/branch"
	"rubricator/chain"
	"rubricator/cursor"
	"rubricator/disk"
	"rubricator/leaf"
	"rubricator/pager"
)

// What is told of what isn't there, and which errors stay.

// goings are all that go, with a key.
func goings(key string) map[string]func(c *cursor.Cursor) bool {
	b := []byte(key)
	return map[string]func(c *cursor.Cursor) bool{
		"First":    (*cursor.Cursor).First,
		"Last":     (*cursor.Cursor).Last,
		"Next":     (*cursor.Cursor).Next,
		"Prev":     (*cursor.Cursor).Prev,
		"Seek":     func(c *cursor.Cursor) bool { return c.Seek(b) },
		"Exact":    func(c *cursor.Cursor) bool { return c.Exact(b) },
		"NextWith": func(c *cursor.Cursor) bool { return c.NextWith(b) },
		"PrevWith": func(c *cursor.Cursor) bool { return c.PrevWith(b) },
		"Skip":     func(c *cursor.Cursor) bool { return c.Skip(b) },
		"Count":    func(c *cursor.Cursor) bool { return c.Count(b) != 0 },
	}
}

// wantNowhere: whatever is called, it stands nowhere, and tells its root and an error; Set and Cut tell another one.
func wantNowhere(t *testing.T, what string, c *cursor.Cursor, stays, change api.Errno) {
	t.Helper()
	root := c.Root()
	for _, key := range []string{"", "a", "\xff", long("m")} {
		for name, goes := range goings(key) {
			if goes(c) || c.Key() != nil || c.Value() != nil {
				t.Fatalf("%s: %s of %s: it stands at %q", what, name, show(key), c.Key())
			}
			wantErr(t, what+": Err behind "+name, c.Err(), stays)
		}
	}
	for _, n := range []int{0, 1, 32768} {
		wantErr(t, what+": Set", c.Set(make([]byte, n)), change)
	}
	wantErr(t, what+": Set of too much", c.Set(make([]byte, 32769)), api.ErrArg)
	wantErr(t, what+": Cut", c.Cut(), change)
	wantErr(t, what+": Err", c.Err(), stays)
	if c.Root() != root {
		t.Fatalf("%s: another root", what)
	}
}

// wantRefused: each that goes meets an error, which stays.
func wantRefused(t *testing.T, what string, root api.Page, fresh func() *cursor.Cursor, e, change api.Errno) {
	t.Helper()
	for name, goes := range goings("a") {
		c := fresh()
		wantErr(t, what+": ahead of all", c.Err(), api.OK)
		if goes(c) {
			t.Fatalf("%s: %s goes", what, name)
		}
		wantErr(t, what+": "+name, c.Err(), e)
		wantNowhere(t, what+": behind "+name, c, e, change)
		if c.Root() != root {
			t.Fatalf("%s: root %d, want %d", what, c.Root(), root)
		}
	}
}

func TestP133OfNil(t *testing.T) {
	var c *cursor.Cursor
	wantNowhere(t, "nil", c, api.ErrArg, api.ErrArg)
	if c.Root() != 0 {
		t.Errorf("root %d", c.Root())
	}
	wantNowhere(t, "an empty one", new(cursor.Cursor), api.OK, api.ErrArg)
}

func TestP131OfNoSource(t *testing.T) {
	for what, s := range map[string]pager.Source{"nil": nil, "a nil File": (*pager.File)(nil), "a nil Txn": (*pager.Txn)(nil)} {
		wantNowhere(t, what+", root 0", cursor.New(s, 0), api.OK, api.ErrArg)
		for _, root := range []api.Page{1, 2, 9, math.MaxUint32} {
			wantRefused(t, what, root, func() *cursor.Cursor { return cursor.New(s, root) }, api.ErrArg, api.ErrArg)
		}
	}
	wantNowhere(t, "a nil change, root 0", cursor.Edit(nil, 0), api.OK, api.ErrArg)
	for _, root := range []api.Page{1, 2, 9, math.MaxUint32} {
		wantRefused(t, "a nil change", root, func() *cursor.Cursor { return cursor.Edit(nil, root) }, api.ErrArg, api.ErrArg)
	}
}

func TestP131RootsThatAreNone(t *testing.T) {
	m := plant(t, 512, forest(512)["two levels"])
	m.commit(t)
	_, e := m.x.New(make([]byte, 512)) // noughts
	wantErr(t, "New", e, api.OK)
	end := m.f.Meta().End
	for _, root := range []api.Page{1, end, end + 1, end + 2, 65535, 65536, 65536 + m.root, math.MaxUint32} {
		wantRefused(t, "New of the file", root, func() *cursor.Cursor { return cursor.New(m.f, root) }, api.ErrCorrupt, api.ErrArg)
		wantRefused(t, "New of a change", root, func() *cursor.Cursor { return cursor.New(m.x, root) }, api.ErrCorrupt, api.ErrArg)
		wantRefused(t, "Edit", root, func() *cursor.Cursor { return cursor.Edit(m.x, root) }, api.ErrCorrupt, api.ErrCorrupt)
	}
	wantNowhere(t, "New, root 0", cursor.New(m.f, 0), api.OK, api.ErrArg)
	wantNowhere(t, "Edit, root 0", cursor.Edit(m.x, 0), api.OK, api.ErrNone)
}

// What it tells that isn't its source's doesn't stay, and it stands where it stood.
func TestP133ErrorsThatDoNotStay(t *testing.T) {
	has := map[string]string{"a": "1", "b": "2", "c": "3"}
	big := make([]byte, 32769)
	for _, what := range []string{"New", "Edit"} {
		m := plant(t, 512, has)
		c := cursor.Edit(m.x, m.root)
		if what == "New" {
			c = cursor.New(m.x, m.root) // of a change, too, it changes nothing
		}
		p := &pair{t: t, what: what, c: c, told: toldOf(has)}
		refused := func(set, cut api.Errno) {
			t.Helper()
			wantErr(t, what+": Set", c.Set([]byte("x")), set)
			wantErr(t, what+": Set of too much", c.Set(big), api.ErrArg)
			wantErr(t, what+": Cut", c.Cut(), cut)
			if p.stands("what is refused"); c.Root() != m.root {
				t.Fatalf("%s: root %d, want %d", what, c.Root(), m.root)
			}
		}
		if what == "New" {
			refused(api.ErrArg, api.ErrArg)
			p.does("Exact", "b")
			refused(api.ErrArg, api.ErrArg)
			p.does("Next", "")
			wantTree(t, what, cursor.New(m.x, m.root), p.told)
			continue
		}
		refused(api.ErrNone, api.ErrNone)
		p.does("Exact", "bb")
		refused(api.ErrNone, api.ErrNone)
		p.does("Exact", "b")
		wantErr(t, what+": Set of too much", c.Set(big), api.ErrArg)
		p.stands("Set of too much")
		p.does("Prev", "")
		wantErr(t, what+": Set", c.Set(big[:32768]), api.OK)
		p.set(string(big[:32768]))
		p.stands("Set of the most")
		p.does("Next", "")
		wantErr(t, what+": Cut", c.Cut(), api.OK)
		p.cut()
		p.stands("Cut")
	}
}

// The first error of a source stays, whatever it tells then; it isn't even asked.
func TestP131TheFirstErrorStays(t *testing.T) {
	for e := api.Errno(1); e < 40; e++ {
		for name, goes := range goings("a") {
			s := &failing{e}
			c := cursor.New(s, 2)
			if goes(c) {
				t.Fatalf("%s goes", name)
			}
			wantNowhere(t, name, c, e, api.ErrArg)
			if s.next != e+1 {
				t.Fatalf("%s: the source was read %d times", name, s.next-e)
			}
		}
	}
	wantNowhere(t, "a source that fails, and isn't read", cursor.New(&failing{20}, 0), api.OK, api.ErrArg)
}

// A disk that fails, in each call behind which it may, from each place.
func TestP131DisksThatFail(t *testing.T) {
	has := map[string]string{}
	for i := range 20 {
		has[long(number(i))] = text(i%25, i)
	}
	has[long(number(7))] = text(1200, 7)
	has["a"] = text(1200, 8)
	m := plant(t, 512, has)
	m.commit(t)
	keys := toldOf(has).keys
	all := goings(long(number(12)))
	maps.Copy(all, map[string]func(c *cursor.Cursor) bool{
		"Key, Value": func(c *cursor.Cursor) bool { return c.Value() != nil },
		"Set":        func(c *cursor.Cursor) bool { return c.Set([]byte(text(30, 1))) == api.OK },
		"Cut":        func(c *cursor.Cursor) bool { return c.Cut() == api.OK },
		"Exact, far": func(c *cursor.Cursor) bool { return c.Exact([]byte("a")) && c.Value() != nil },
	})
	for name, call := range all {
		fails := 0
		for _, key := range keys {
			for after := 0; ; after++ {
				m.x.Abort()
				m.x = begun(t, m.f)
				c := cursor.Edit(m.x, m.root)
				if !c.Exact([]byte(key)) {
					t.Fatal("it isn't there")
				}
				m.d.Fail(after)
				ok := call(c)
				m.d.Fail(-1)
				if c.Err() == api.OK {
					break
				}
				if fails++; ok {
					t.Fatalf("%s of %s, the call behind %d fails: it goes", name, show(key), after)
				}
				wantNowhere(t, name, c, api.ErrIO, api.ErrIO)
			}
		}
		if fails == 0 {
			t.Errorf("%s: nothing failed", name)
		}
	}
}

// wantStays: a call meets an error, tells it, and it stays.
func wantStays(t *testing.T, what string, c *cursor.Cursor, told, e api.Errno) {
	t.Helper()
	wantErr(t, what, told, e)
	wantNowhere(t, what, c, e, e)
}

func TestP133ChangesThatAreOver(t *testing.T) {
	has := map[string]string{"a": "1", "b": text(1200, 1), "c": "3"}
	for what, end := range map[string]func(m *made){
		"aborted":   func(m *made) { m.x.Abort() },
		"committed": func(m *made) { wantErr(t, "Commit", m.x.Commit(m.root), api.OK) },
	} {
		at := func() *cursor.Cursor {
			m := plant(t, 512, has)
			c := cursor.Edit(m.x, m.root)
			c.Exact([]byte("b"))
			end(m)
			wantErr(t, what, c.Err(), api.OK)
			return c
		}
		c := at()
		wantStays(t, what+": Set", c, c.Set(nil), api.ErrState)
		c = at()
		wantStays(t, what+": Cut", c, c.Cut(), api.ErrState)
		c = at()
		if value := c.Value(); value != nil {
			t.Errorf("%s: a far value: %d bytes", what, len(value))
		}
		wantStays(t, what+": Value", c, c.Err(), api.ErrState)
		c = at()
		if n := c.Count([]byte("a")); n != 0 {
			t.Errorf("%s: Count is %d", what, n)
		}
		wantStays(t, what+": Count", c, c.Err(), api.ErrState)
		m := plant(t, 512, has)
		end(m)
		wantRefused(t, what, m.root, func() *cursor.Cursor { return cursor.Edit(m.x, m.root) }, api.ErrState, api.ErrState)
		wantNowhere(t, what+", root 0", cursor.Edit(m.x, 0), api.OK, api.ErrNone)
	}
}

func TestP133FullDisks(t *testing.T) {
	m := plant(t, 512, map[string]string{"a": "1", "b": "2"})
	m.commit(t)
	var b []byte
	for i := range m.d.Len() {
		page, e := m.d.Read(i)
		wantErr(t, "the disk", e, api.OK)
		b = append(b, page...)
	}
	d, e := disk.From(b, 512, m.d.Len()+20)
	wantErr(t, "From", e, api.OK)
	f := opened(t, d)
	root := f.Meta().Main
	c := cursor.Edit(begun(t, f), root)
	c.Last()
	wantErr(t, "Set of what has room", c.Set(make([]byte, 3000)), api.OK)
	c = cursor.Edit(begun(t, f), root)
	c.First()
	wantStays(t, "Set of what has no room", c, c.Set(make([]byte, 30000)), api.ErrFull)
	if c.Root() != root {
		t.Errorf("root %d, was %d", c.Root(), root)
	}
}

// noPages are the bytes of pages that aren't a tree's.
func noPages(t *testing.T) map[string][]byte {
	t.Helper()
	good, e := leaf.Put([]leaf.Entry{entry("n", "b")}, 512)
	wantErr(t, "leaf.Put", e, api.OK)
	kids, e := branch.Put([]branch.Entry{kid("", 2), kid("b", 2)}, 512)
	wantErr(t, "branch.Put", e, api.OK)
	part, e := chain.Put([]byte("abc"), 0, 512)
	wantErr(t, "chain.Put", e, api.OK)
	spoil := func(b []byte, at int, c byte) []byte {
		b = slices.Clone(b)
		b[at] ^= c
		return b
	}
	return map[string][]byte{
		"noughts":                     make([]byte, 512),
		"a far value's page":          part,
		"another kind":                spoil(good, 0, 64),
		"a leaf, told to be a branch": spoil(good, 0, 3),
		"a branch, told to be a leaf": spoil(kids, 0, 3),
		"a byte among noughts":        spoil(good, 100, 1),
		"an entry more":               spoil(good, 3, 3),
		"a child of 0":                spoil(kids, len(kids)-1, 2),
		"a child of 1":                spoil(kids, len(kids)-1, 3),
	}
}

// wantRow: from First on there are keys, and then an error; it stays.
func wantRow(t *testing.T, what string, c *cursor.Cursor, e api.Errno, keys ...string) {
	t.Helper()
	var got []string
	for ok := c.First(); ok; ok = c.Next() {
		got = append(got, string(c.Key()))
	}
	if !slices.Equal(got, keys) {
		t.Fatalf("%s: keys %q, want %q", what, got, keys)
	}
	wantErr(t, what, c.Err(), e)
	if e != api.OK {
		wantNowhere(t, what, c, e, api.ErrArg)
	}
}

func TestP131PagesThatAreNone(t *testing.T) {
	for name, b := range noPages(t) {
		l, f := laying(t)
		bad := l.raw(b)
		wantRefused(t, name, bad, func() *cursor.Cursor { return cursor.New(l.x, bad) }, api.ErrCorrupt, api.ErrArg)
		wantRefused(t, name, bad, func() *cursor.Cursor { return cursor.Edit(l.x, bad) }, api.ErrCorrupt, api.ErrCorrupt)
		root := l.branch(kid("", l.leaf("a", "b")), kid("m", bad), kid("p", l.leaf("q", "r")))
		wantErr(t, "Commit", l.x.Commit(root), api.OK)
		at := func(key string) *cursor.Cursor {
			c := cursor.New(f, root)
			if !c.Exact([]byte(key)) || string(c.Key()) != key {
				t.Fatalf("%s: Exact of %s: error %d", name, key, c.Err())
			}
			return c
		}
		wantRow(t, name, cursor.New(f, root), api.ErrCorrupt, "a", "b")
		for what, goes := range map[string]func() (*cursor.Cursor, bool){
			"Next":      func() (*cursor.Cursor, bool) { c := at("b"); return c, c.Next() },
			"Prev":      func() (*cursor.Cursor, bool) { c := at("q"); return c, c.Prev() },
			"NextWith":  func() (*cursor.Cursor, bool) { c := at("b"); return c, c.NextWith([]byte("n")) },
			"PrevWith":  func() (*cursor.Cursor, bool) { c := at("q"); return c, c.PrevWith([]byte("n")) },
			"Seek":      func() (*cursor.Cursor, bool) { c := at("q"); return c, c.Seek([]byte("n")) },
			"Seek of c": func() (*cursor.Cursor, bool) { c := at("q"); return c, c.Seek([]byte("c")) },
			"Skip of b": func() (*cursor.Cursor, bool) { c := at("q"); return c, c.Skip([]byte("b")) },
			"Exact":     func() (*cursor.Cursor, bool) { c := at("q"); return c, c.Exact([]byte("n")) },
			"Count":     func() (*cursor.Cursor, bool) { c := at("q"); return c, c.Count([]byte("n")) != 0 },
			"Count all": func() (*cursor.Cursor, bool) { c := at("q"); return c, c.Count(nil) != 0 },
		} {
			c, ok := goes()
			if ok || c.Err() != api.ErrCorrupt {
				t.Fatalf("%s: %s: %t, error %d", name, what, ok, c.Err())
			}
			wantNowhere(t, name+", "+what, c, api.ErrCorrupt, api.ErrArg)
		}
		// What isn't read isn't seen.
		c := cursor.New(f, root)
		if c.Exact([]byte("c")) || c.Exact([]byte("A")) || !c.First() || !c.Last() || !c.Prev() || !c.Skip([]byte("q")) || c.Count([]byte("r")) != 1 || c.Next() || c.Err() != api.OK {
			t.Errorf("%s: error %d", name, c.Err())
		}
	}
}

func TestP131KeysOutOfBounds(t *testing.T) {
	for what, lay := range map[string]func(l laid) api.Page{
		"below": func(l laid) api.Page { return l.branch(kid("", l.leaf("a")), kid("m", l.leaf("l", "n"))) },
		"above": func(l laid) api.Page {
			return l.branch(kid("", l.leaf("a")), kid("m", l.leaf("n", "p")), kid("p", l.leaf("q")))
		},
		"the same": func(l laid) api.Page { p := l.leaf("a"); return l.branch(kid("", p), kid("m", p)) },
		"below its way's": func(l laid) api.Page {
			return l.branch(kid("", l.leaf("a")), kid("m", l.branch(kid("", l.leaf("l")), kid("o", l.leaf("p")))))
		},
		"below it, from a key on that is": func(l laid) api.Page {
			return l.branch(kid("", l.leaf("a")), kid("m", l.branch(kid("", l.leaf()), kid("b", l.leaf("c", "n")))))
		},
		"above its way's": func(l laid) api.Page {
			return l.branch(kid("", l.branch(kid("", l.leaf("a")), kid("c", l.leaf("d", "m")))), kid("m", l.leaf("n")))
		},
	} {
		l, _ := laying(t)
		wantRow(t, what, cursor.New(l.x, lay(l)), api.ErrCorrupt, "a")
	}
}

func TestP131DeeperThan32(t *testing.T) {
	l, _ := laying(t)
	p := l.leaf("a")
	for i := range 40 {
		if i == api.MaxDeep-1 {
			wantRow(t, "32 levels", cursor.New(l.x, p), api.OK, "a")
		}
		p = l.branch(kid("", p), kid(string([]byte{byte('c' + i)}), l.leaf()))
		if i >= api.MaxDeep-1 {
			s := &counting{Source: l.x}
			wantRow(t, "too many levels", cursor.New(s, p), api.ErrCorrupt)
			if s.reads != api.MaxDeep {
				t.Errorf("%d pages were read", s.reads)
			}
		}
	}
}

func TestP131PagesThatLeadBack(t *testing.T) {
	for what, lay := range map[string]func(l laid) api.Page{
		"itself":          func(l laid) api.Page { p := l.leaf("a"); return l.branch(kid("", p+1), kid("m", p)) },
		"itself, at last": func(l laid) api.Page { p := l.leaf("a"); return l.branch(kid("", p), kid("m", p+1)) },
		"itself, twice":   func(l laid) api.Page { p := l.leaf("a"); return l.branch(kid("", p+1), kid("m", p+1)) },
		"one another": func(l laid) api.Page {
			p := l.leaf("a")
			return l.branch(kid("", l.branch(kid("", p+2), kid("m", p))), kid("z", p))
		},
		"one another, too": func(l laid) api.Page {
			p := l.leaf("a")
			return l.branch(kid("", p), kid("b", l.branch(kid("", p), kid("m", p+2))))
		},
	} {
		l, _ := laying(t)
		root := lay(l)
		ends := func(goes func(c *cursor.Cursor) bool, again func(c *cursor.Cursor) bool) {
			t.Helper()
			s := &counting{Source: l.x}
			c := cursor.New(s, root)
			for ok := goes(c); ok; ok = again(c) {
			}
			if s.reads > 200 {
				t.Errorf("%s: %d pages were read", what, s.reads)
			}
		}
		ends((*cursor.Cursor).First, (*cursor.Cursor).Next)
		ends((*cursor.Cursor).Last, (*cursor.Cursor).Prev)
		for _, key := range []string{"", "a", "b", "m", "n", "z"} {
			for _, goes := range goings(key) {
				ends(goes, func(*cursor.Cursor) bool { return false })
			}
		}
	}
}

// A far value that isn't cut as it should be is seen by who asks for it, and for nothing else.
func TestP133FarValues(t *testing.T) {
	l, _ := laying(t)
	first := l.chain(text(400, 1), text(504, 2))
	root := l.entries(entry("a", "1"), farEntry("b", 904, first), entry("c", "3"))
	at := func() *cursor.Cursor {
		c := cursor.Edit(l.x, root)
		if !c.First() || !c.Next() || string(c.Key()) != "b" || c.Count([]byte("b")) != 1 || c.Err() != api.OK {
			t.Fatalf("it stands at %q, error %d", c.Key(), c.Err())
		}
		return c
	}
	wantRow(t, "all keys", cursor.New(l.x, root), api.OK, "a", "b", "c")
	c := at()
	if value := c.Value(); value != nil {
		t.Errorf("a value of %d bytes", len(value))
	}
	wantStays(t, "Value", c, c.Err(), api.ErrCorrupt)
	c = at()
	wantStays(t, "Set", c, c.Set([]byte("2")), api.ErrCorrupt)
	l2, _ := laying(t)
	root = l2.entries(entry("a", "1"), farEntry("b", 904, l2.chain(text(904-504, 1), text(504, 2))))
	c = cursor.Edit(l2.x, root)
	c.Last()
	wantStays(t, "Cut", c, c.Cut(), api.ErrCorrupt)
}

// The key is cut, but whether there is a next one can't be read.
func TestP133CutAheadOfWhatIsNoPage(t *testing.T) {
	l, _ := laying(t)
	size := mostHere(512, 1)
	full := l.entries(entry("a", text(size, 1)), entry("b", text(size, 2)), entry("c", text(size, 3)))
	root := l.branch(kid("", full), kid("m", l.raw(make([]byte, 512))))
	c := cursor.Edit(l.x, root)
	if !c.Exact([]byte("b")) || c.Cut() != api.OK || string(c.Key()) != "c" || c.Err() != api.OK {
		t.Fatalf("it stands at %q, error %d", c.Key(), c.Err())
	}
	wantErr(t, "Set", c.Set([]byte(text(size, 4))), api.OK)
	wantStays(t, "Cut of c", c, c.Cut(), api.ErrCorrupt)
	c = cursor.New(l.x, c.Root())
	wantErr(t, "Cut of New", c.Cut(), api.ErrArg)
	if c.Exact([]byte("c")) || !c.Exact([]byte("a")) {
		t.Errorf("error %d", c.Err())
	}
}

func TestP133TheFirstError(t *testing.T) {
	m := plant(t, 512, map[string]string{"a": "1"})
	big := make([]byte, 32769)
	c := cursor.Edit(m.x, 1)
	wantErr(t, "too much, nowhere", c.Set(big), api.ErrArg)
	wantErr(t, "nowhere", c.Set(nil), api.ErrNone)
	c.First()
	wantErr(t, "too much, and an error that stays", c.Set(big), api.ErrArg)
	wantErr(t, "an error that stays, nowhere", c.Set(nil), api.ErrCorrupt)
	c = cursor.New(m.x, 1)
	c.First()
	wantErr(t, "New, and an error that stays", c.Set(nil), api.ErrArg)
	wantErr(t, "New, and an error that stays", c.Cut(), api.ErrArg)
	m.x.Abort()
	c = cursor.Edit(m.x, m.root)
	wantErr(t, "nowhere, a change that is over", c.Set(nil), api.ErrNone)
	wantErr(t, "nowhere, a change that is over", c.Cut(), api.ErrNone)
}
