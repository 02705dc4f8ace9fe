package cursor_test

import (
	"math/rand/v2"
	"slices"
	"testing"

	"rubricator/api"
	"rubricator/cursor"
	"rubricator/leaf"
	"rubricator/pager"
	"rubricator/tree"
)

// P13.1, P13.2 and P13.4: where it stands, behind each call that goes.

// depth is how many levels a tree has.
func depth(t *testing.T, s pager.Source, root api.Page) int {
	t.Helper()
	deep := 0
	for p := root; p != 0; deep++ {
		b, e := s.Read(p)
		wantErr(t, "Read", e, api.OK)
		if _, e := leaf.Get(b); e == api.OK {
			return deep + 1
		}
		p = firstKid(t, b)
	}
	return deep
}

// The forest has trees of all kinds.
func TestP131TheForest(t *testing.T) {
	for _, size := range []int{512, 640, 1024, 4096} {
		deep := map[string]int{"no key": 0, "one key": 1, "one key, no value": 1, "a key of 96": 1, "a far value": 1, "one leaf": 1, "two levels": 2, "three levels": 3}
		for name, has := range forest(size) {
			m := plant(t, size, has)
			got, want := depth(t, m.x, m.root), deep[name]
			if want == 0 && name != "no key" {
				want = min(got, 2)
			}
			if got < want || got > want && want < 2 {
				t.Errorf("%d, %s: %d levels", size, name, got)
			}
		}
	}
}

// P13.4: all keys, rising and falling, each with its value; and what is behind either end.
func TestP134AllKeys(t *testing.T) {
	each(t, func(t *testing.T, size int, has map[string]string) {
		everywhere(t, size, has, func(p *pair) {
			rising, falling := []string{}, []string{}
			for ok := p.c.First(); ok; ok = p.c.Next() {
				rising = append(rising, string(p.c.Key()))
			}
			p.stands("Next of the last key")
			for ok := p.c.Last(); ok; ok = p.c.Prev() {
				falling = append(falling, string(p.c.Key()))
			}
			p.stands("Prev of the first key")
			slices.Reverse(falling)
			if !slices.Equal(rising, p.keys) || !slices.Equal(falling, p.keys) {
				t.Fatalf("%s: %d keys rising, %d falling, want %d", p.what, len(rising), len(falling), len(p.keys))
			}
			for _, name := range []string{"Next", "Prev"} {
				for range 2*len(p.keys) + 3 { // from nowhere, and past the end twice
					p.does(name, "")
				}
				p.put(nowhere)
			}
		})
	})
}

// Back and forth, by turns, over each place.
func TestP131BackAndForth(t *testing.T) {
	each(t, func(t *testing.T, size int, has map[string]string) {
		everywhere(t, size, has, func(p *pair) {
			for range len(p.keys) + 1 {
				for _, name := range []string{"Next", "Prev", "Next"} {
					p.does(name, "")
				}
			}
			p.put(nowhere)
			for range len(p.keys) + 1 {
				for _, name := range []string{"Prev", "Next", "Prev"} {
					p.does(name, "")
				}
			}
		})
	})
}

// Each call of each probe, from some places, and from nowhere.
func TestP131AllCalls(t *testing.T) {
	each(t, func(t *testing.T, size int, has map[string]string) {
		everywhere(t, size, has, func(p *pair) {
			for _, name := range names() {
				for _, at := range places(p.keys) {
					l := probes(p.keys)
					switch name {
					case "First", "Last", "Next", "Prev":
						l = l[:1]
					}
					for i, x := range l {
						if at != nowhere && len(p.keys) > few && i%13 != 0 {
							continue
						}
						p.put(at)
						p.does(name, x)
					}
				}
			}
		})
	})
}

// P13.2: Count, from some places, and from nowhere: it stands where it stood.
func TestP132Count(t *testing.T) {
	each(t, func(t *testing.T, size int, has map[string]string) {
		everywhere(t, size, has, func(p *pair) {
			for i, x := range probes(p.keys) {
				l := places(p.keys)
				p.put(l[i%len(l)])
				p.counts(x)
				if i%5 == 0 {
					p.does("Next", "") // it goes on from there
					p.does("Prev", "")
				}
			}
		})
	})
}

// P13.2: all keys that begin so are those from the first one on, as long as NextWith goes; likewise from behind.
func TestP132Fronts(t *testing.T) {
	each(t, func(t *testing.T, size int, has map[string]string) {
		everywhere(t, size, has, func(p *pair) {
			for _, x := range probes(p.keys) {
				n := 0
				p.does("Seek", x)
				if p.with(x); p.at == nowhere {
					continue
				}
				for ; p.at != nowhere; n++ {
					p.does("NextWith", x)
				}
				if n != p.count(x) {
					t.Fatalf("%s: %d keys begin with %s, want %d", p.what, n, show(x), p.count(x))
				}
				p.does("Skip", x) // to the one behind them, and back
				for n = 0; n == 0 || p.at != nowhere; n++ {
					p.does("PrevWith", x)
				}
				if n != p.count(x)+1 {
					t.Fatalf("%s: %d keys, falling, begin with %s, want %d", p.what, n-1, show(x), p.count(x))
				}
			}
		})
	})
}

// Long rows of calls, by chance.
func TestP131LongRows(t *testing.T) {
	each(t, func(t *testing.T, size int, has map[string]string) {
		chance := rand.New(rand.NewPCG(13, 1))
		everywhere(t, size, has, func(p *pair) {
			l := probes(p.keys)
			for range 300 {
				x := l[chance.IntN(len(l))]
				if chance.IntN(20) == 0 {
					p.counts(x)
					continue
				}
				p.does(names()[chance.IntN(len(calls))], x)
			}
		})
	})
}

// Trees whose leaves have no entries, some of them, or all.
func TestP131LeavesWithoutEntries(t *testing.T) {
	for what, lay := range map[string]func(l laid) api.Page{
		"a leaf": func(l laid) api.Page { return l.leaf() },
		"ahead":  func(l laid) api.Page { return l.branch(kid("", l.leaf()), kid("m", l.leaf("n"))) },
		"behind": func(l laid) api.Page { return l.branch(kid("", l.leaf("a")), kid("m", l.leaf())) },
		"all":    func(l laid) api.Page { return l.branch(kid("", l.leaf()), kid("m", l.leaf()), kid("p", l.leaf())) },
		"in the midst": func(l laid) api.Page {
			return l.branch(kid("", l.leaf("a", "b")), kid("f", l.leaf()), kid("g", l.leaf()), kid("m", l.leaf("m")))
		},
		"both ends": func(l laid) api.Page {
			return l.branch(kid("", l.leaf()), kid("f", l.leaf("f", "g")), kid("m", l.leaf()))
		},
		"whole branches": func(l laid) api.Page {
			a := l.branch(kid("", l.leaf()), kid("c", l.leaf()))
			b := l.branch(kid("", l.leaf()), kid("h", l.leaf("h", "hh")), kid("k", l.leaf()))
			c := l.branch(kid("", l.leaf()), kid("r", l.leaf()))
			d := l.branch(kid("", l.leaf()), kid("x", l.leaf("y")))
			return l.branch(kid("", a), kid("g", b), kid("p", c), kid("t", d), kid("z", l.branch(kid("", l.leaf()), kid("zz", l.leaf()))))
		},
	} {
		l, f := laying(t)
		root := lay(l)
		p := &pair{t: t, what: what, c: cursor.Edit(l.x, root), told: toldOf(l.has)}
		holdAll(p)
		wantErr(t, "Commit", l.x.Commit(root), api.OK)
		holdAll(&pair{t: t, what: what, c: cursor.New(f, root), told: toldOf(l.has)})
	}
}

// holdAll holds each call of each probe, from some places, and from nowhere.
func holdAll(p *pair) {
	p.t.Helper()
	for _, at := range places(p.keys) {
		for _, x := range append(probes(p.keys), "f", "g", "h", "hh", "z", "zz") {
			for _, name := range names() {
				p.put(at)
				p.does(name, x)
			}
			p.put(at)
			p.counts(x)
		}
	}
}

// A branch's keys may be where no key of its tree may, if nothing is there: it is a tree yet.
func TestP131KidsWithoutAnyKeyThatMayBe(t *testing.T) {
	l, _ := laying(t)
	left := l.branch(kid("", l.leaf("a")), kid("c", l.leaf("d")), kid("p", l.leaf()), kid("q", l.leaf()))
	right := l.branch(kid("", l.leaf()), kid("b", l.leaf()), kid("c", l.leaf("n")), kid("p", l.leaf("q")))
	holdAll(&pair{t: t, what: "keys out of bounds", c: cursor.New(l.x, l.branch(kid("", left), kid("m", right))), told: toldOf(l.has)})
}

// A tree of 32 levels.
func TestP131Deep(t *testing.T) {
	l, _ := laying(t)
	p := l.leaf("a", "b")
	for i := range api.MaxDeep - 1 {
		key := string([]byte{byte('c' + i)})
		q := l.leaf(key)
		for range i {
			q = l.branch(kid("", q), kid("\xff", l.leaf()))
		}
		p = l.branch(kid("", p), kid(key, q))
	}
	if deep := depth(t, l.x, p); deep != api.MaxDeep {
		t.Fatalf("%d levels", deep)
	}
	holdAll(&pair{t: t, what: "32 levels", c: cursor.New(l.x, p), told: toldOf(l.has)})
}

// What isn't asked for isn't read.
func TestP131Exact(t *testing.T) {
	l, _ := laying(t)
	a := l.branch(kid("", l.leaf("a", "c")), kid("f", l.leaf("f")))
	root := l.branch(kid("", a), kid("m", l.leaf("n")))
	for key, there := range map[string]bool{"a": true, "b": false, "c": true, "d": false, "f": true, "g": false, "": false} {
		s := &counting{Source: l.x}
		c := cursor.New(s, root)
		if c.Exact([]byte(key)) != there || s.reads != 3 {
			t.Errorf("Exact of %q: %t, %d pages were read", key, !there, s.reads)
		}
	}
	s := &counting{Source: l.x}
	c := cursor.New(s, root)
	if c.Skip(nil) || c.Skip([]byte("\xff")) || s.reads != 0 {
		t.Errorf("%d pages were read for what nothing is behind", s.reads)
	}
}

// The same pages below one another again and again: all calls end soon.
func TestP131PagesAgainAndAgain(t *testing.T) {
	for _, where := range []string{"a", "m", "z"} {
		l, _ := laying(t)
		p := l.leaf()
		for i := range api.MaxDeep - 1 {
			key := "m"
			switch where {
			case "a":
				key = string([]byte{byte('a' + i)})
			case "z":
				key = string([]byte{byte('z' - i)})
			}
			p = l.branch(kid("", p), kid(key, p))
		}
		s := &counting{Source: l.x}
		holdAll(&pair{t: t, what: "keys from " + where, c: cursor.New(s, p), told: toldOf(nil)})
		if s.reads > 1<<20 {
			t.Errorf("keys from %s: %d pages were read", where, s.reads)
		}
	}
}

// P13.3: a value of the most bytes.
func TestP133TheGreatestValue(t *testing.T) {
	for _, size := range []int{512, 4096} {
		everywhere(t, size, map[string]string{"a": "1", "m": text(api.MaxValue, 1)}, func(p *pair) {
			p.does("Last", "")
			p.does("Prev", "")
			p.does("Exact", "m")
			p.counts("m")
		})
	}
}

func TestP132TheExample(t *testing.T) {
	m := plant(t, 512, map[string]string{"a": "1", "ab": "2", "b": "3"})
	c := cursor.New(m.x, m.root)
	if !c.Skip([]byte("a")) || string(c.Key()) != "b" || string(c.Value()) != "3" {
		t.Errorf("Skip of a: %q", c.Key())
	}
	if c.Count([]byte("a")) != 2 || string(c.Key()) != "b" {
		t.Errorf("Count of a is %d, at %q", c.Count([]byte("a")), c.Key())
	}
}

// P13.3: what is told is new memory, also where the source tells its own bytes.
func TestP133NewMemory(t *testing.T) {
	b, e := leaf.Put([]leaf.Entry{entry("a", "one"), entry("b", "two")}, 512)
	wantErr(t, "leaf.Put", e, api.OK)
	s := same{2: b}
	holdAll(&pair{t: t, what: "its own bytes", c: cursor.New(s, 2), told: toldOf(map[string]string{"a": "one", "b": "two"})})
	value, is, e := tree.Get(s, 2, []byte("b"))
	if string(value) != "two" || !is || e != api.OK {
		t.Errorf("b has %q, %t, error %d", value, is, e)
	}
}

// Two cursors of one tree go each for itself; a cursor of a file stands on while another change is committed.
func TestP131TwoCursors(t *testing.T) {
	has := forest(512)["near and far"]
	m := plant(t, 512, has)
	m.commit(t)
	a := &pair{t: t, what: "one", c: cursor.New(m.f, m.root), told: toldOf(has)}
	b := &pair{t: t, what: "another one", c: cursor.Edit(m.x, m.root), told: toldOf(has)}
	for range len(has) + 2 {
		a.does("Next", "")
		b.does("Prev", "")
		if b.at != nowhere {
			wantErr(t, "Cut", b.c.Cut(), api.OK)
			b.cut()
			b.stands("Cut")
		}
	}
	wantErr(t, "Commit", m.x.Commit(b.c.Root()), api.OK)
	for range len(has) + 2 {
		a.does("Prev", "")
	}
}
