package cursor_test

import (
	"maps"
	"math/rand/v2"
	"slices"
	"strconv"
	"strings"
	"testing"

	"rubricator/api"
	"rubricator/cursor"
	"rubricator/disk"
	"rubricator/pager"
	"rubricator/tree"
)

// The words of the chapter, told again: of keys in a row, and a place among them.

// told is where a cursor should stand.
type told struct {
	has  map[string]string
	keys []string // rising
	at   int      // nowhere: -1
}

const nowhere = -1

func toldOf(has map[string]string) told {
	return told{has: maps.Clone(has), keys: slices.Sorted(maps.Keys(has)), at: nowhere}
}

// to goes to the first key of which something holds.
func (m *told) to(holds func(key string) bool) { m.at = slices.IndexFunc(m.keys, holds) }

func (m *told) first()           { m.to(func(string) bool { return true }) }
func (m *told) last()            { m.at = len(m.keys) - 1 }
func (m *told) seek(key string)  { m.to(func(x string) bool { return x >= key }) }
func (m *told) exact(key string) { m.to(func(x string) bool { return x == key }) }

func (m *told) next() {
	if m.at++; m.at == len(m.keys) {
		m.at = nowhere
	}
}

func (m *told) prev() {
	if m.at == nowhere {
		m.at = len(m.keys)
	}
	m.at--
}

func (m *told) with(front string) {
	if m.at != nowhere && !strings.HasPrefix(m.keys[m.at], front) {
		m.at = nowhere
	}
}

func (m *told) skip(front string) {
	m.to(func(x string) bool { return front != "" && x > front && !strings.HasPrefix(x, front) })
}

func (m *told) count(front string) int {
	n := 0
	for _, key := range m.keys {
		if strings.HasPrefix(key, front) {
			n++
		}
	}
	return n
}

// set lets the key there have another value.
func (m *told) set(value string) { m.has[m.keys[m.at]] = value }

// cut lets the key there be gone.
func (m *told) cut() {
	delete(m.has, m.keys[m.at])
	m.keys = slices.Delete(m.keys, m.at, m.at+1)
	if m.at == len(m.keys) {
		m.at = nowhere
	}
}

// pair is a cursor, and where it should stand.
type pair struct {
	t    *testing.T
	what string
	c    *cursor.Cursor
	told
}

// calls are all that go: what is handed in is changed behind the call.
var calls = map[string]func(p *pair, x string) bool{
	"First": func(p *pair, x string) bool { p.first(); return p.c.First() },
	"Last":  func(p *pair, x string) bool { p.last(); return p.c.Last() },
	"Next":  func(p *pair, x string) bool { p.next(); return p.c.Next() },
	"Prev":  func(p *pair, x string) bool { p.prev(); return p.c.Prev() },
	"Seek":  func(p *pair, x string) bool { p.seek(x); return p.handed(p.c.Seek, x) },
	"Exact": func(p *pair, x string) bool { p.exact(x); return p.handed(p.c.Exact, x) },
	"NextWith": func(p *pair, x string) bool {
		p.next()
		p.with(x)
		return p.handed(p.c.NextWith, x)
	},
	"PrevWith": func(p *pair, x string) bool {
		p.prev()
		p.with(x)
		return p.handed(p.c.PrevWith, x)
	},
	"Skip": func(p *pair, x string) bool { p.skip(x); return p.handed(p.c.Skip, x) },
}

// names are those of all that go.
func names() []string { return slices.Sorted(maps.Keys(calls)) }

// handed hands bytes in, and changes them behind the call.
func (p *pair) handed(call func([]byte) bool, x string) bool {
	p.t.Helper()
	b := []byte(x)
	ok := call(b)
	if string(b) != x {
		p.t.Fatalf("%s: what is handed in is changed", p.what)
	}
	scratch(b)
	return ok
}

// does lets both go, and holds them against each other.
func (p *pair) does(name, x string) {
	p.t.Helper()
	was := p.at
	ok := calls[name](p, x)
	if ok != (p.at != nowhere) {
		p.t.Fatalf("%s: from %d, %s of %s tells %t, want %t", p.what, was, name, show(x), ok, !ok)
	}
	p.stands(name + " of " + show(x) + ", from " + strconv.Itoa(was))
}

// counts counts both, from where they stand.
func (p *pair) counts(x string) {
	p.t.Helper()
	b := []byte(x)
	n := p.c.Count(b)
	if want := p.count(x); n != want || string(b) != x {
		p.t.Fatalf("%s: from %d, Count of %s is %d, want %d", p.what, p.at, show(x), n, want)
	}
	scratch(b)
	p.stands("Count of " + show(x))
}

// stands holds where the cursor stands against where it should; what it tells is changed behind it.
func (p *pair) stands(behind string) {
	p.t.Helper()
	for range 2 {
		key, value := p.c.Key(), p.c.Value()
		switch {
		case p.c.Err() != api.OK:
			p.t.Fatalf("%s: behind %s: error %d", p.what, behind, p.c.Err())
		case p.at == nowhere:
			if key != nil || value != nil {
				p.t.Fatalf("%s: behind %s: it stands at %q, %d bytes, want nowhere", p.what, behind, key, len(value))
			}
		case string(key) != p.keys[p.at] || string(value) != p.has[p.keys[p.at]]:
			p.t.Fatalf("%s: behind %s: it stands at %q, %d bytes, want %q, %d bytes", p.what, behind, key, len(value), p.keys[p.at], len(p.has[p.keys[p.at]]))
		}
		scratch(key, value)
		_, _ = append(key, "more"...), append(value, "more"...)
	}
}

// put lets both stand somewhere, or nowhere.
func (p *pair) put(at int) {
	p.t.Helper()
	if at == nowhere {
		p.does("Skip", "")
		return
	}
	p.does("Exact", p.keys[at])
}

// made is a tree, in a change that was begun for it.
type made struct {
	d    *disk.Disk
	f    *pager.File
	x    *pager.Txn
	root api.Page
	has  map[string]string
}

// plant makes a tree, whose keys come by chance.
func plant(t *testing.T, size int, has map[string]string) *made {
	t.Helper()
	d, e := disk.New(size, 65536)
	wantErr(t, "a disk", e, api.OK)
	m := &made{d: d, has: has}
	m.f = opened(t, d)
	m.x = begun(t, m.f)
	keys := slices.Sorted(maps.Keys(has))
	rand.New(rand.NewPCG(13, uint64(size))).Shuffle(len(keys), func(i, j int) { keys[i], keys[j] = keys[j], keys[i] })
	for _, key := range keys {
		m.root, e = tree.Put(m.x, m.root, []byte(key), []byte(has[key]))
		wantErr(t, "Put", e, api.OK)
	}
	return m
}

// commit commits, and begins the next change.
func (m *made) commit(t *testing.T) {
	t.Helper()
	wantErr(t, "Commit", m.x.Commit(m.root), api.OK)
	m.x = begun(t, m.f)
}

// everywhere has something held against cursors of all kinds of a tree.
func everywhere(t *testing.T, size int, has map[string]string, hold func(p *pair)) {
	t.Helper()
	m := plant(t, size, has)
	cursors := func(when string) {
		for what, c := range map[string]*cursor.Cursor{
			"New of a change":  cursor.New(m.x, m.root),
			"Edit of a change": cursor.Edit(m.x, m.root),
			"New of the file":  cursor.New(m.f, m.f.Meta().Main),
		} {
			p := &pair{t: t, what: what + ", " + when, c: c, told: toldOf(has)}
			if what == "New of the file" {
				p.told = toldOf(nil)
				if m.f.Meta().Main != 0 {
					p.told = toldOf(has)
				}
			}
			root := c.Root()
			p.stands("nothing")
			if hold(p); c.Root() != root {
				t.Fatalf("%s: another root", p.what)
			}
		}
	}
	cursors("not committed")
	m.commit(t)
	cursors("committed")
}

// forest are trees of all kinds: of no key, of one, of one leaf, of two levels and of more; keys and values of all kinds.
func forest(size int) map[string]map[string]string {
	all := map[string]map[string]string{
		"no key":            {},
		"one key":           {"m": "value"},
		"one key, no value": {"\x00": ""},
		"a key of 96":       {long("m"): text(9, 1)},
		"a far value":       {"m": text(3*size, 1)},
		"one leaf":          {"\x00": "", "a": "1", "ab": "", "abc": "3", "b": "4", "\xff": "5", "\xff\xff": ""},
	}
	for name, n := range map[string]int{"two levels": 4, "three levels": 48} {
		m := map[string]string{}
		for i := range n * size / 128 {
			m[long(number(i))] = text(i%25, i)
		}
		all[name] = m
	}
	fronts := map[string]string{}
	for i := range api.MaxKey {
		fronts[strings.Repeat("a", i+1)] = text(i, i)
		fronts[strings.Repeat("\xff", i+1)] = text(i%9, i)
		fronts[string([]byte{byte(i * 8 / 3)})+text(i%20, i)] = text(i*size/99, i)
	}
	all["fronts of one another"] = fronts
	far := map[string]string{}
	for i := range 60 {
		far[number(i * i)[i%3:]] = text(i*i*7%(2*size), i)
	}
	all["near and far"] = far
	return all
}

// each has something held against each tree of the forest.
func each(t *testing.T, hold func(t *testing.T, size int, has map[string]string)) {
	for _, size := range []int{512, 640, 4096} {
		for name, has := range forest(size) {
			t.Run(strconv.Itoa(size)+" "+name, func(t *testing.T) {
				t.Parallel()
				hold(t, size, has)
			})
		}
	}
}

const few = 12 // of more keys some are picked

// probes are keys that are there, that are ahead and behind of these, and such as begin like them.
func probes(keys []string) []string {
	l := []string{"", "\x00", "\x00\x00", "a", "a\xff", "a\xff\xff", "\x7f", "\x80", "\xc3", "\xc3\xbf", "\xef\xbf\xbd", "m", "m\xfe", "\xfe", "\xfe\xff\xff", "\xff", "\xff\xff", "\xff\x00",
		long(""), long("") + "k", strings.Repeat("\xff", 96), strings.Repeat("\xff", 97), strings.Repeat("a", 97), "a" + strings.Repeat("\xff", 300), text(300, 1)}
	for i, key := range keys {
		if len(keys) > few && i%(len(keys)/few) != 0 && i != len(keys)-1 {
			continue
		}
		last := key[len(key)-1]
		l = append(l, key, key+"\x00", key+"\xff", key[:len(key)-1], key[:(len(key)+1)/2], key[:len(key)-1]+string([]byte{last - 1}), key[:len(key)-1]+string([]byte{last + 1}))
	}
	slices.Sort(l)
	return slices.Compact(l)
}

// places are some of a row's, and nowhere.
func places(keys []string) []int {
	l := []int{nowhere}
	for i := range keys {
		if i < 2 || i > len(keys)-3 || i == len(keys)/2 {
			l = append(l, i)
		}
	}
	return l
}

func wantErr(t *testing.T, what string, got, want api.Errno) {
	t.Helper()
	if got != want {
		t.Fatalf("%s: error %d, want %d", what, got, want)
	}
}

func opened(t *testing.T, d *disk.Disk) *pager.File {
	t.Helper()
	f, e := pager.Open(d)
	wantErr(t, "Open", e, api.OK)
	return f
}

func begun(t *testing.T, f *pager.File) *pager.Txn {
	t.Helper()
	x, e := f.Begin(f.Meta().Txn)
	wantErr(t, "Begin", e, api.OK)
	return x
}

// scratch changes bytes.
func scratch(l ...[]byte) {
	for _, b := range l {
		for i := range b {
			b[i] ^= 255
		}
	}
}

// show is a key, as far as it is of use.
func show(key string) string {
	if len(key) <= 12 {
		return strconv.Quote(key)
	}
	return strconv.Quote(key[:12]) + ".. (" + strconv.Itoa(len(key)) + " bytes)"
}

// text is so many bytes, that differ from place to place, and for each seed.
func text(n, seed int) string {
	b := make([]byte, n)
	for i := range b {
		b[i] = byte(i*7 + i/256 + seed*31)
	}
	return string(b)
}

// long is a key that is as long as a key may be, with such a front.
func long(front string) string { return front + strings.Repeat("k", api.MaxKey-len(front)) }

func number(i int) string { return strconv.Itoa(10000 + i) }
