package tree_test

import (
	"math"
	"slices"
	"strings"
	"testing"

	"rubricator/api"
	"rubricator/branch"
	"rubricator/chain"
	"rubricator/leaf"
	"rubricator/pager"
	"rubricator/tree"
)

func sizes() []int { return []int{512, 640, 1024, 4096} }

// P12.1

func TestP121OfNoSource(t *testing.T) {
	for what, s := range map[string]pager.Source{"nil": nil, "a nil File": (*pager.File)(nil), "a nil Txn": (*pager.Txn)(nil)} {
		for _, key := range []string{"", "a", long("a"), long("a") + "a"} {
			wantNone(t, what, s, 0, key, api.OK)
			for _, root := range []api.Page{1, 2, 9, math.MaxUint32} {
				wantNone(t, what, s, root, key, api.ErrArg)
			}
		}
		for _, n := range []int{math.MinInt, -1, 0, 1, 504, 32768, 32769, math.MaxInt} {
			for _, first := range []api.Page{1, 2, math.MaxUint32} {
				wantNoValue(t, what, s, n, first, api.ErrArg)
			}
			if b, e := tree.Value(s, []byte("here"), n, 0); e != api.OK || string(b) != "here" {
				t.Errorf("%s: a value that is here: %q, error %d", what, b, e)
			}
		}
	}
}

func TestP121RootsThatAreNone(t *testing.T) {
	everywhere(t, 512, func(l laid) api.Page { return l.leaf("a") }, func(what string, s pager.Source, root api.Page) {
		for _, key := range []string{"", "a", "b", long("a") + "a"} {
			wantNone(t, what+", root 0", s, 0, key, api.OK)
			for _, p := range []api.Page{1, root + 1, root + 2, 65535, 65536, 65536 + root, math.MaxUint32} {
				wantNone(t, what+", no page of a tree", s, p, key, api.ErrCorrupt)
			}
		}
		wantGet(t, what, s, root, "a", valueOf("a"))
	})
}

func TestP121ALeaf(t *testing.T) {
	for _, size := range sizes() {
		keys := []string{"\x00", "a", "aa", "ab", "b", long("b"), "\xff", long("\xff")}
		lay := func(l laid) api.Page {
			b := l.leaf(keys[:4]...)
			return l.entries(slices.Concat(entriesOf(l, b), []leaf.Entry{
				entry(keys[4], valueOf(keys[4])), entry(keys[5], ""), entry(keys[6], ""), entry(keys[7], ""),
			})...)
		}
		everywhere(t, size, lay, func(what string, s pager.Source, root api.Page) {
			for i, key := range keys {
				want := valueOf(key)
				if i > 4 {
					want = ""
				}
				wantGet(t, what, s, root, key, want)
			}
			for _, key := range []string{"", "\x00\x00", "A", "a\x00", "aaa", "abb", "b\x00", long("b")[:95], long("b") + "k", "\xff\xff", long("\xff") + "k", strings.Repeat("\xff", 300)} {
				wantNone(t, what, s, root, key, api.OK)
			}
		})
	}
}

func entriesOf(l laid, p api.Page) []leaf.Entry {
	l.t.Helper()
	b, e := l.x.Read(p)
	wantErr(l.t, "Read", e, api.OK)
	list, e := leaf.Get(b)
	wantErr(l.t, "leaf.Get", e, api.OK)
	return list
}

// A leaf without entries is a tree, if not a well filled one.
func TestP121WithoutEntries(t *testing.T) {
	everywhere(t, 512, func(l laid) api.Page {
		return l.branch(kid("", l.leaf()), kid("m", l.leaf("n")), kid("o", l.leaf()))
	}, func(what string, s pager.Source, root api.Page) {
		wantGet(t, what, s, root, "n", valueOf("n"))
		for _, key := range []string{"", "a", "m", "nn", "o", "z"} {
			wantNone(t, what, s, root, key, api.OK)
		}
	})
	everywhere(t, 512, func(l laid) api.Page { return l.leaf() }, func(what string, s pager.Source, root api.Page) {
		wantNone(t, what, s, root, "a", api.OK)
		wantNone(t, what, s, root, "", api.OK)
	})
}

func TestP121Branches(t *testing.T) {
	for _, size := range sizes() {
		lay := func(l laid) api.Page {
			a := l.branch(kid("", l.leaf("a", "b")), kid("c", l.leaf("c", "d")))
			b := l.branch(kid("", l.leaf("g", "h")), kid("k", l.leaf("l")), kid("m", l.leaf("m", "mm")))
			c := l.branch(kid("", l.leaf("p")), kid("r", l.leaf("z", "zz")))
			return l.branch(kid("", a), kid("f", b), kid("p", c))
		}
		everywhere(t, size, lay, func(what string, s pager.Source, root api.Page) {
			for _, key := range []string{"a", "b", "c", "d", "g", "h", "l", "m", "mm", "p", "z", "zz"} {
				wantGet(t, what, s, root, key, valueOf(key))
			}
			for _, key := range []string{"", "A", "bb", "bz", "cc", "e", "f", "ff", "k", "kk", "lz", "mmm", "oz", "pp", "r", "rr", "zzz", "\xff"} {
				wantNone(t, what, s, root, key, api.OK)
			}
			if x := look(t, what, s, root); x.deep != 3 || len(x.leaves) != 7 || len(x.branches) != 4 {
				t.Errorf("%s: laid otherwise: %v", what, x)
			}
			c := &counting{Source: s}
			wantNone(t, what, c, root, "aa", api.OK)
			if c.reads != 3 {
				t.Errorf("%s: %d pages were read, want 3", what, c.reads)
			}
		})
	}
}

// deepTree is a leaf with key a, so many pages below the root, that one too; no key is where the branches lead otherwise.
func deepTree(l laid, deep int) api.Page {
	p := l.leaf("a")
	for i := range deep - 1 {
		p = l.branch(kid("", p), kid(string([]byte{byte(100 + i)}), 2))
	}
	return p
}

func TestP121Deep(t *testing.T) {
	for _, deep := range []int{1, 2, 31, 32} {
		everywhere(t, 512, func(l laid) api.Page { return deepTree(l, deep) }, func(what string, s pager.Source, root api.Page) {
			wantGet(t, what, s, root, "a", valueOf("a"))
			wantNone(t, what, s, root, "A", api.OK)
		})
	}
	for _, deep := range []int{33, 34, 64, 100} {
		everywhere(t, 512, func(l laid) api.Page { return deepTree(l, deep) }, func(what string, s pager.Source, root api.Page) {
			wantNone(t, what, s, root, "a", api.ErrCorrupt)
			wantNone(t, what, s, root, "A", api.ErrCorrupt)
			c := &counting{Source: s}
			wantNone(t, what, c, root, "a", api.ErrCorrupt)
			if c.reads > 32 {
				t.Errorf("%s: %d pages were read, want 32", what, c.reads)
			}
		})
	}
}

func TestP121PagesThatLeadBack(t *testing.T) {
	for _, lay := range []func(l laid) api.Page{
		func(l laid) api.Page { p := l.next(); return l.branch(kid("", p), kid("m", p)) },
		func(l laid) api.Page {
			p := l.leaf("a")
			return l.branch(kid("", p+1), kid("m", p))
		},
		func(l laid) api.Page {
			p := l.next()
			return l.branch(kid("", l.branch(kid("", p+1), kid("m", p+1))), kid("m", p))
		},
	} {
		everywhere(t, 512, lay, func(what string, s pager.Source, root api.Page) {
			wantNone(t, what, s, root, "a", api.ErrCorrupt)
			wantNone(t, what, s, root, "", api.ErrCorrupt)
		})
	}
}

// noPages are the bytes of pages that aren't a tree's.
func noPages(t *testing.T, size int) map[string][]byte {
	t.Helper()
	good, e := leaf.Put([]leaf.Entry{entry("a", "b")}, size)
	wantErr(t, "leaf.Put", e, api.OK)
	part, e := chain.Put([]byte("abc"), 0, size)
	wantErr(t, "chain.Put", e, api.OK)
	branches, e := branch.Put([]branch.Entry{kid("", 2), kid("b", 2)}, size)
	wantErr(t, "branch.Put", e, api.OK)
	spoil := func(b []byte, at int, c byte) []byte {
		b = slices.Clone(b)
		b[at] ^= c
		return b
	}
	return map[string][]byte{
		"noughts":                       make([]byte, size),
		"a far value's page":            part,
		"another kind":                  spoil(good, 0, 64),
		"a leaf, told to be a branch":   spoil(good, 0, 3),
		"a branch, told to be a leaf":   spoil(branches, 0, 3),
		"a byte among noughts":          spoil(good, 100, 1),
		"a byte among a branch's":       spoil(branches, 100, 1),
		"an entry more":                 spoil(good, 3, 3),
		"an entry that begins past end": spoil(good, 4, 255),
		"an empty key":                  spoil(good, size-6, 1),
		"a key of another length":       spoil(good, size-6, 3),
		"a branch of one kid":           append(append(append([]byte{2, 0, 0, 1}, byte((size-5)>>8), byte(size-5)), make([]byte, size-11)...), 0, 0, 0, 0, 2),
		"a child of 0":                  withChild(t, 0, size),
		"a child of 1":                  withChild(t, 1, size),
	}
}

func TestP121PagesThatAreNone(t *testing.T) {
	for _, size := range []int{512, 4096} {
		for name, b := range noPages(t, size) {
			lays := map[string]func(l laid) api.Page{
				"the root": func(l laid) api.Page { return l.raw(b) },
				"a kid":    func(l laid) api.Page { return l.branch(kid("", l.leaf("a")), kid("m", l.raw(b))) },
				"below a kid": func(l laid) api.Page {
					deep := l.branch(kid("", l.raw(b)), kid("p", l.leaf("q")))
					return l.branch(kid("", l.branch(kid("", l.leaf("a")), kid("c", l.leaf("d")))), kid("m", deep))
				},
			}
			for where, lay := range lays {
				everywhere(t, size, lay, func(what string, s pager.Source, root api.Page) {
					what = name + ", " + where + ", " + what
					for _, key := range []string{"n", "m", "mm"} {
						wantNone(t, what, s, root, key, api.ErrCorrupt)
					}
					if where != "the root" {
						wantGet(t, what, s, root, "a", valueOf("a")) // what isn't read isn't seen
						wantNone(t, what, s, root, "aa", api.OK)
					}
					if where == "below a kid" {
						wantGet(t, what, s, root, "q", valueOf("q"))
						wantGet(t, what, s, root, "d", valueOf("d"))
					}
				})
			}
		}
	}
}

func TestP121ChildrenThatAreNone(t *testing.T) {
	for _, p := range []api.Page{0, 1, 4, 5, 65535, 65536, 65538, 1 << 31, math.MaxUint32} {
		everywhere(t, 512, func(l laid) api.Page {
			l.leaf("a") // page 2
			return l.raw(withChild(t, p, 512))
		}, func(what string, s pager.Source, root api.Page) {
			wantNone(t, what, s, root, "n", api.ErrCorrupt)
			want := api.OK
			if p < 2 {
				want = api.ErrCorrupt
			}
			wantNone(t, what, s, root, "b", want)
		})
	}
}

// Keys that aren't where their branch says, in a leaf that is read.
func TestP121KeysOutOfBounds(t *testing.T) {
	for _, x := range []struct {
		what string
		lay  func(l laid) api.Page
		bad  []string
		good []string
	}{
		{"below", func(l laid) api.Page {
			return l.branch(kid("", l.leaf("a")), kid("m", l.leaf("l", "n")))
		}, []string{"m", "n", "mm", "z"}, []string{"a"}},
		{"above", func(l laid) api.Page {
			return l.branch(kid("", l.leaf("a", "m")), kid("m", l.leaf("n")))
		}, []string{"", "a", "b", "lz"}, []string{"n"}},
		{"all above", func(l laid) api.Page {
			return l.branch(kid("", l.leaf("x")), kid("m", l.leaf("n")))
		}, []string{"", "a"}, []string{"n"}},
		{"below, in the midst", func(l laid) api.Page {
			return l.branch(kid("", l.leaf("a")), kid("f", l.leaf("e")), kid("m", l.leaf("n")))
		}, []string{"f", "g"}, []string{"n", "a"}},
		{"above, in the midst", func(l laid) api.Page {
			return l.branch(kid("", l.leaf("a")), kid("f", l.leaf("g", "mm")), kid("m", l.leaf("n")))
		}, []string{"f", "g"}, []string{"n", "a"}},
		{"below its branch's branch", func(l laid) api.Page {
			left := l.branch(kid("", l.leaf("a")), kid("c", l.leaf("d")))
			return l.branch(kid("", left), kid("m", l.branch(kid("", l.leaf("e", "n")), kid("p", l.leaf("q")))))
		}, []string{"m", "n", "o"}, []string{"a", "d", "q"}},
		{"above its branch's branch", func(l laid) api.Page {
			left := l.branch(kid("", l.leaf("a")), kid("c", l.leaf("d", "n")))
			return l.branch(kid("", left), kid("m", l.branch(kid("", l.leaf("m")), kid("p", l.leaf("q")))))
		}, []string{"c", "d", "e", "l"}, []string{"a", "m", "q"}},
		{"below its branch's branch, whose kids are ahead of it", func(l laid) api.Page {
			right := l.branch(kid("", l.leaf()), kid("b", l.leaf("e", "n")), kid("p", l.leaf("q")))
			return l.branch(kid("", l.leaf("a")), kid("m", right))
		}, []string{"m", "n", "o"}, []string{"a", "q"}},
		{"above its branch's branch, whose kids are behind it", func(l laid) api.Page {
			left := l.branch(kid("", l.leaf("a")), kid("c", l.leaf("d", "n")), kid("z", l.leaf()))
			return l.branch(kid("", left), kid("m", l.leaf("q")))
		}, []string{"c", "d", "e", "l"}, []string{"a", "q"}},
	} {
		everywhere(t, 512, x.lay, func(what string, s pager.Source, root api.Page) {
			for _, key := range x.bad {
				wantNone(t, x.what+", "+what, s, root, key, api.ErrCorrupt)
			}
			for _, key := range x.good {
				wantGet(t, x.what+", "+what, s, root, key, valueOf(key))
			}
		})
	}
}

// A branch's keys may be where no key of its tree may, if nothing is there: it is a tree yet.
func TestP121KidsWithoutAnyKeyThatMayBe(t *testing.T) {
	everywhere(t, 512, func(l laid) api.Page {
		none := l.leaf()
		left := l.branch(kid("", l.leaf("a")), kid("c", l.leaf("d")), kid("p", none))
		right := l.branch(kid("", l.leaf()), kid("b", l.leaf("n")), kid("p", l.leaf("q")))
		return l.branch(kid("", left), kid("m", right))
	}, func(what string, s pager.Source, root api.Page) {
		for _, key := range []string{"a", "d", "n", "q"} {
			wantGet(t, what, s, root, key, valueOf(key))
		}
		for _, key := range []string{"b", "c", "l", "m", "p", "z"} {
			wantNone(t, what, s, root, key, api.OK)
		}
	})
}

func TestP121ErrorsOfTheSource(t *testing.T) {
	for e := api.Errno(1); e < 40; e++ {
		wantNone(t, "a source that fails", failing(e), 2, "a", e)
		wantNoValue(t, "a source that fails", failing(e), 700, 2, e)
		wantNoValue(t, "a source that fails", failing(e), 0, 2, e)
	}
	wantNone(t, "a source that fails, and isn't read", failing(20), 0, "a", api.OK)
	d := blank(t, 512, 99)
	f := opened(t, d)
	l := laid{t, begun(t, f, 1)}
	first := l.value(text(1200, 1))
	right := l.branch(kid("", l.leaf("m")), kid("r", l.entries(farEntry("s", 1200, first))))
	root := l.branch(kid("", l.branch(kid("", l.leaf("a")), kid("b", l.leaf("b")))), kid("m", right))
	wantErr(t, "Commit", l.x.Commit(root), api.OK)
	for fail := range 6 {
		d.Fail(fail)
		wantNone(t, "a disk that fails", f, root, "s", api.ErrIO)
		d.Fail(fail)
		if fail < 3 {
			wantNone(t, "a disk that fails", f, root, "bb", api.ErrIO)
			d.Fail(fail)
			wantNoValue(t, "a disk that fails", f, 1200, first, api.ErrIO)
		}
		d.Fail(-1)
		wantGet(t, "the disk is well again", f, root, "s", text(1200, 1))
	}
	d.Fail(6)
	if b, is, e := tree.Get(f, root, []byte("s")); !is || e != api.OK || len(b) != 1200 {
		t.Errorf("6 pages were to be read: error %d", e)
	}
	x := begun(t, f, 1)
	x.Abort()
	wantNone(t, "a change that is over", x, root, "a", api.ErrState)
	wantNone(t, "a change that is over, root 0", x, 0, "a", api.OK)
	wantNoValue(t, "a change that is over", x, 1200, first, api.ErrState)
}

// What is told is new memory, also where the source tells its own.
func TestP121NewMemory(t *testing.T) {
	here := []byte("here")
	b, e := tree.Value(nil, here, 0, 0)
	wantErr(t, "Value", e, api.OK)
	scratch(b)
	_ = append(b, 1, 2, 3)
	if string(here) != "here" {
		t.Errorf("what was handed in is %q", here)
	}
	page, e := leaf.Put([]leaf.Entry{entry("a", "one"), entry("b", "two"), farEntry("c", 504, 3)}, 512)
	wantErr(t, "leaf.Put", e, api.OK)
	part, e := chain.Put([]byte(text(504, 1)), 0, 512)
	wantErr(t, "chain.Put", e, api.OK)
	s := same{2: page, 3: part}
	wantGet(t, "its own bytes", s, 2, "a", "one")
	wantGet(t, "its own bytes", s, 2, "b", "two")
	wantGet(t, "its own bytes", s, 2, "c", text(504, 1))
	wantValue(t, "its own bytes", s, 504, 3, text(504, 1))
}

func TestP121ValuesThatAreHere(t *testing.T) {
	for _, n := range []int{0, -1, 1, 504, math.MaxInt, math.MinInt} {
		for _, value := range []string{"", "a", text(25, 1), text(32769, 2)} {
			if b, e := tree.Value(failing(20), []byte(value), n, 0); e != api.OK || string(b) != value {
				t.Errorf("Value of %d bytes that are here: %d, error %d", len(value), len(b), e)
			}
		}
	}
	if b, e := tree.Value(failing(20), nil, 0, 0); e != api.OK || len(b) != 0 {
		t.Errorf("Value of nothing: %v, error %d", b, e)
	}
}

func TestP121FarValues(t *testing.T) {
	for _, size := range sizes() {
		room := size - 8
		for _, n := range []int{1, 2, 100, room - 1, room, room + 1, 2*room - 1, 2 * room, 2*room + 1, 5*room + 7, 32767, 32768} {
			value := text(n, size)
			var first api.Page
			everywhere(t, size, func(l laid) api.Page { first = l.value(value); return first }, func(what string, s pager.Source, _ api.Page) {
				wantValue(t, what, s, n, first, value)
				for _, other := range []int{n - 1, n + 1, n - room, n + room, 0, -1, -n, 1, 32769, 2 * n, math.MaxInt, math.MinInt} {
					if other != n {
						wantNoValue(t, what+", another length", s, other, first, api.ErrCorrupt)
					}
				}
				for _, p := range []api.Page{1, 65536, math.MaxUint32} {
					wantNoValue(t, what+", from no page", s, n, p, api.ErrCorrupt)
				}
				if n > room {
					// Laid from the last page on: the second one is ahead of the first one.
					wantNoValue(t, what+", from another page", s, n, first-1, api.ErrCorrupt)
					wantValue(t, what+", from another page, what is left", s, n-room, first-1, value[room:])
				}
			})
		}
	}
}

// cuts are values of 1200 bytes that are cut otherwise, or end too early, or go on; their first pages.
func cuts() map[string]func(l laid) api.Page {
	a, b, c := text(504, 1), text(504, 2), text(192, 3)
	return map[string]func(l laid) api.Page{
		"a byte less ahead":        func(l laid) api.Page { return l.chain(0, a[1:], b, c+"x") },
		"a byte less in the midst": func(l laid) api.Page { return l.chain(0, a, b[1:], c+"x") },
		"the last one ahead":       func(l laid) api.Page { return l.chain(0, c, a, b) },
		"in four":                  func(l laid) api.Page { return l.chain(0, a, b, c[:100], c[100:]) },
		"in halves":                func(l laid) api.Page { return l.chain(0, a[:400], b[:400], c+text(208, 4)) },
		"a byte too few":           func(l laid) api.Page { return l.chain(0, a, b, c[1:]) },
		"a byte too many":          func(l laid) api.Page { return l.chain(0, a, b, c+"x") },
		"an end too early":         func(l laid) api.Page { return l.chain(0, a, b) },
		"the first page alone":     func(l laid) api.Page { return l.chain(0, a) },
		"one more":                 func(l laid) api.Page { return l.chain(0, a, b, c, "x") },
		"page 1 behind it":         func(l laid) api.Page { return l.chain(1, a, b, c) },
		"a leaf behind it":         func(l laid) api.Page { return l.chain(l.leaf("a"), a, b, c) },
		"a leaf in the midst":      func(l laid) api.Page { return l.chain(l.leaf("a"), a, b) },
		"the end in the midst":     func(l laid) api.Page { return l.chain(65536, a, b) },
		"page 1 in the midst":      func(l laid) api.Page { return l.chain(1, a, b) },
		"a leaf":                   func(l laid) api.Page { return l.leaf("a") },
		"noughts":                  func(l laid) api.Page { return l.raw(make([]byte, 512)) },
		"no page":                  func(l laid) api.Page { return 60000 },
		"itself":                   func(l laid) api.Page { return l.chain(l.next(), a) },
		"the first one":            func(l laid) api.Page { p := l.next(); return l.chain(p+1, a, b) },
		"the second one":           func(l laid) api.Page { p := l.next(); return l.chain(p, a, b) },
	}
}

func TestP121FarValuesThatAreCutOtherwise(t *testing.T) {
	for name, lay := range cuts() {
		var first api.Page
		everywhere(t, 512, func(l laid) api.Page {
			first = lay(l)
			return l.entries(entry("a", "b"), farEntry("far", 1200, first), entry("g", "h"))
		}, func(what string, s pager.Source, root api.Page) {
			what = name + ", " + what
			wantNoValue(t, what, s, 1200, first, api.ErrCorrupt)
			wantNone(t, what, s, root, "far", api.ErrCorrupt)
			wantGet(t, what, s, root, "a", "b")
			wantGet(t, what, s, root, "g", "h")
			for _, n := range []int{32768, math.MaxInt} {
				wantNoValue(t, what, s, n, first, api.ErrCorrupt)
			}
		})
	}
}

func TestP121GetOfFarValues(t *testing.T) {
	for _, size := range sizes() {
		values := map[string]string{"a": text(mostHere(size, 1)+1, 1), "b": text(size-8, 2), "c": text(size-7, 3), "d": text(32768, 4)}
		everywhere(t, size, func(l laid) api.Page {
			var list []leaf.Entry
			for _, key := range []string{"a", "b", "c", "d"} {
				list = append(list, farEntry(key, len(values[key]), l.value(values[key])))
			}
			return l.entries(append(list, entry("e", "here"))...)
		}, func(what string, s pager.Source, root api.Page) {
			for key, value := range values {
				wantGet(t, what, s, root, key, value)
			}
			wantGet(t, what, s, root, "e", "here")
			wantNone(t, what, s, root, "dd", api.OK)
		})
	}
}
