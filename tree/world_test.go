package tree_test

import (
	"bytes"
	"cmp"
	"math/rand/v2"
	"slices"
	"strconv"
	"testing"

	"rubricator/api"
	"rubricator/branch"
	"rubricator/leaf"
	"rubricator/pager"
	"rubricator/tree"
)

// Long rows of changes, of trees of all kinds: after each step the tree is as the chapter tells.

// orders are ways in which keys come and go.
func orders(n int, chance *rand.Rand) map[string][]int {
	rising := make([]int, n)
	for i := range rising {
		rising[i] = i
	}
	falling := slices.Clone(rising)
	slices.Reverse(falling)
	inward := slices.Clone(rising)
	slices.SortFunc(inward, func(a, b int) int { return cmp.Compare(min(a, n-1-a), min(b, n-1-b)) })
	outward := slices.Clone(inward)
	slices.Reverse(outward)
	mixed := slices.Clone(rising)
	chance.Shuffle(n, func(i, j int) { mixed[i], mixed[j] = mixed[j], mixed[i] })
	return map[string][]int{"rising": rising, "falling": falling, "inward": inward, "outward": outward, "mixed": mixed}
}

// shapes are kinds of entries: those of a number.
func shapes(size int) map[string]func(i int) (string, string) {
	return map[string]func(i int) (string, string){
		"small":             func(i int) (string, string) { return number(i), text(i%4, i) },
		"keys of a byte":    func(i int) (string, string) { return string([]byte{byte(i)}), text(i%60, i) },
		"keys of 96":        func(i int) (string, string) { return long(number(i)), "" },
		"the greatest":      func(i int) (string, string) { return long(number(i)), text(mostHere(size, 96), i) },
		"great values":      func(i int) (string, string) { return number(i), text(mostHere(size, 4), i) },
		"far values":        func(i int) (string, string) { return number(i), text(mostHere(size, 4)+1+i*9%700, i) },
		"great and small":   func(i int) (string, string) { return number(i), text(i%2*mostHere(size, 4), i) },
		"of all kinds":      func(i int) (string, string) { return number(i)[i%3:] + text(i*5%90, i), text(i*i*7%(size/3), i) },
		"keys that go on":   func(i int) (string, string) { return text(1+i%96, 0) + number(i)[:i/96], text(i%30, i) },
		"a great one a row": func(i int) (string, string) { return number(i), text(max(0, i%9-7)*mostHere(size, 4), i) },
	}
}

func TestP122Orders(t *testing.T) {
	chance := rand.New(rand.NewPCG(12, 2))
	for _, size := range []int{512, 1024} {
		for name, shape := range shapes(size) {
			for come, in := range orders(90, chance) {
				for goes, out := range orders(90, chance) {
					if come != "mixed" && goes != "mixed" && come != goes {
						continue
					}
					t.Run(strconv.Itoa(size)+" "+name+" "+come+" "+goes, func(t *testing.T) {
						t.Parallel()
						w := newWorld(t, size)
						for _, i := range in {
							w.put(shape(i))
						}
						w.commit()
						for n, i := range out {
							key, _ := shape(i)
							w.cut(key)
							if n%30 == 20 {
								w.commit()
							}
						}
						w.commit()
						if w.root != 0 || len(w.want) > 0 {
							t.Errorf("root %d, of none", w.root)
						}
					})
				}
			}
		}
	}
}

// Trees of three levels and more, built and cut down.
func TestP122ManyLevels(t *testing.T) {
	const n = 400
	chance := rand.New(rand.NewPCG(12, 5))
	for come, in := range orders(n, chance) {
		t.Run(come, func(t *testing.T) {
			t.Parallel()
			w := newWorld(t, 512)
			for k, i := range in {
				w.put(long(strconv.Itoa(10000+i)), text(25, i))
				if k%100 == 99 {
					w.commit()
				}
			}
			if w.now.deep < 5 {
				t.Errorf("the tree has %d levels", w.now.deep)
			}
			for k, i := range orders(n, rand.New(rand.NewPCG(12, 6)))[come] {
				w.cut(long(strconv.Itoa(10000 + i)))
				if k%100 == 99 {
					w.commit()
				}
			}
			if w.root != 0 {
				t.Errorf("root %d, of none", w.root)
			}
		})
	}
}

// P12.2 and P12.3: changes by chance, committed, given up, and trees that stay all the while.
func TestP123LongRows(t *testing.T) {
	for i := range 12 {
		t.Run(strconv.Itoa(i), func(t *testing.T) {
			t.Parallel()
			chance := rand.New(rand.NewPCG(12, uint64(i)))
			size := sizes()[i%4]
			w := newWorld(t, size)
			for range 60 {
				grows := chance.IntN(3) > 0
				for range chance.IntN(20) {
					w.some(chance, grows)
				}
				switch chance.IntN(5) {
				case 0:
					w.abort()
				case 1:
					w.keep(3)
					w.commit()
				default:
					w.commit()
				}
			}
			w.crash()
		})
	}
}

// some puts or cuts, by chance.
func (w *world) some(chance *rand.Rand, grows bool) {
	w.t.Helper()
	key := someKey(chance)
	if keys := w.now.keys(); len(keys) > 0 && chance.IntN(3) == 0 {
		key = keys[chance.IntN(len(keys))]
	}
	if grows == (chance.IntN(4) > 0) {
		w.put(key, someValue(chance, w.x.Size(), len(key)))
		return
	}
	if keys := w.now.keys(); len(keys) > 0 && chance.IntN(6) > 0 {
		key = keys[chance.IntN(len(keys))]
	}
	w.cut(key)
}

// someKey is now short, now long, now alike to others.
func someKey(chance *rand.Rand) string {
	n := 1 + chance.IntN(96)
	switch chance.IntN(4) {
	case 0:
		n = 1 + chance.IntN(3)
	case 1:
		n = 96
	}
	b := bytes.Repeat([]byte{byte(chance.IntN(2) * 255)}, n)
	for range 2 {
		b[chance.IntN(min(n, 3))] = byte(chance.Uint32())
	}
	b[n-1] = byte(chance.Uint32())
	return string(b)
}

func someValue(chance *rand.Rand, size, key int) string {
	most := mostHere(size, key)
	switch chance.IntN(8) {
	case 0:
		return text(most, chance.IntN(99))
	case 1:
		return text(most+1, chance.IntN(99))
	case 2:
		return text(chance.IntN(3*size), chance.IntN(99))
	case 3:
		return ""
	}
	return text(chance.IntN(most+1), chance.IntN(99))
}

// crash crashes, and holds what was committed against what is there then.
func (w *world) crash() {
	w.t.Helper()
	w.d.Crash(bytes.Repeat([]byte{255}, 99))
	f := opened(w.t, w.d)
	if f.Meta().Main != w.last.root {
		w.t.Fatalf("behind a crash: root %d, want %d", f.Meta().Main, w.last.root)
	}
	wantTold(w.t, "behind a crash", look(w.t, "behind a crash", f, w.last.root), w.last.tree)
}

// P12.3: the tree of a root that was committed is the same while another one is made of it, and behind that, too.
func TestP123TreesStay(t *testing.T) {
	w := newWorld(t, 512)
	for i := range 60 {
		w.put(number(i), text(i*13%200, i))
	}
	w.commit()
	w.keep(9)
	first := w.last
	for i := range 60 {
		w.put(number(i*7%60), text(i*17%300, i))
		wantTold(t, "ahead of a commit", look(t, "ahead of a commit", w.f, first.root), first.tree)
		w.cut(number(i * 11 % 60))
		wantTold(t, "ahead of a commit", look(t, "ahead of a commit", w.f, first.root), first.tree)
		if i%10 == 9 {
			w.commit() // all that are kept are looked at
			w.keep(9)
		}
	}
	wantTold(t, "at last", look(t, "at last", w.f, first.root), first.tree)
	for key, value := range first.tree.has {
		wantGet(t, "at last", w.f, first.root, key, value)
	}
}

// Trees that are laid by hand, by chance: well filled ones stay so, all others stay trees.
func TestP123LaidTrees(t *testing.T) {
	for i := range 400 {
		t.Run(strconv.Itoa(i), func(t *testing.T) {
			t.Parallel()
			chance := rand.New(rand.NewPCG(123, uint64(i)))
			filled := i%2 == 0
			w := newWorld(t, []int{512, 1024}[i/2%2])
			w.fills = filled
			root := layTree(laid{t, w.x}, w.want, chance, "", 1+chance.IntN(4), filled)
			w.now, w.root = look(t, "laid", w.x, root), root
			if wantHas(t, "laid", w.now, w.want); filled && !w.now.filled {
				t.Fatal("laid otherwise")
			}
			if chance.IntN(2) == 0 {
				w.commit()
			}
			for range 60 {
				w.some(chance, chance.IntN(2) == 0)
			}
			w.commit()
			for _, key := range w.now.keys() {
				w.cut(key)
			}
			w.commit()
		})
	}
}

// layTree lays a tree so deep, whose keys begin with a front.
func layTree(l laid, has map[string]string, chance *rand.Rand, front string, deep int, filled bool) api.Page {
	l.t.Helper()
	if deep == 1 {
		return layLeaf(l, has, chance, front, filled)
	}
	letters := chance.Perm(20)[:2+chance.IntN(3)]
	slices.Sort(letters)
	var kids []branch.Entry
	for i, letter := range letters {
		key := front + string([]byte{byte('a' + letter)})
		x := kid(key, layTree(l, has, chance, key, deep-1, filled))
		if i == 0 {
			x.Key = nil
		}
		kids = append(kids, x)
	}
	return l.branch(kids...)
}

// layLeaf lays a leaf, one that isn't well filled perhaps.
func layLeaf(l laid, has map[string]string, chance *rand.Rand, front string, filled bool) api.Page {
	l.t.Helper()
	size := l.x.Size()
	least, most := size/4, size/4+chance.IntN(size/2)
	if !filled {
		least, most = 0, chance.IntN(size/2)
	}
	var list []leaf.Entry
	for i := 0; ; i++ {
		key := front + number(i)
		value := text(chance.IntN(mostHere(size, len(key))+1), i)
		if chance.IntN(9) == 0 {
			value = text(size, i)
		}
		x := entry(key, value)
		if len(value) == size {
			x = farEntry(key, size, l.value(value))
		}
		if next := append(list, x); leaf.Fill(next) <= size && (leaf.Fill(list) < least || leaf.Fill(next) <= most) {
			list = next
			has[key] = value
			continue
		}
		if x.First != 0 {
			letGo(l, size, x.First)
		}
		return l.entries(list...)
	}
}

// letGo lets go of the pages of a far value that isn't needed.
func letGo(l laid, long int, first api.Page) {
	l.t.Helper()
	k := &looker{t: l.t, what: "a value that was laid", s: l.x}
	k.farValue(long, first)
	for _, p := range k.far {
		wantErr(l.t, "Free", l.x.Free(p), api.OK)
	}
}

// A tree of 32 levels, or of 31, each of whose pages is full, but for what isn't read: one that would be deeper is refused.
func TestP122NoTreeIsDeeper(t *testing.T) {
	for _, deep := range []int{31, 32} {
		l, _ := laying(t, 512)
		p := l.leaf(long("a1"), long("a3"), long("a4"), long("a5"))
		for i := range deep - 1 {
			at := string([]byte{byte(100 + i)})
			p = l.branch(kid("", p), kid(long(at+"1"), 2), kid(long(at+"2"), 2), kid(long(at+"3"), 2), kid(long(at+"4"), 2))
		}
		wantGet(t, "full", l.x, p, long("a3"), valueOf("a3kkkkkk"))
		root, e := tree.Put(l.x, p, []byte(long("a2")), []byte(text(25, 1)))
		if deep == 32 {
			if e != api.ErrCorrupt || root != 0 {
				t.Errorf("32 levels, and one more: root %d, error %d", root, e)
			}
			continue
		}
		wantErr(t, "Put", e, api.OK)
		wantGet(t, "put", l.x, root, long("a2"), text(25, 1))
		c := &counting{Source: l.x}
		wantGet(t, "put", c, root, long("a1"), valueOf("a1kkkkkk"))
		if c.reads != 64 { // by two Gets
			t.Errorf("%d pages were read", c.reads)
		}
	}
}

// What a change of one file did is nothing to another one's.
func TestP122TheSameCallsHaveTheSameAnswers(t *testing.T) {
	build := func() ([]byte, api.Page) {
		d := blank(t, 512, 999)
		x := begun(t, opened(t, d), 1)
		var root api.Page
		for i := range 200 {
			var e api.Errno
			root, e = tree.Put(x, root, []byte(number(i*77%200)), []byte(text(i*31%260, i)))
			wantErr(t, "Put", e, api.OK)
			if i%3 == 0 {
				root, _, e = tree.Cut(x, root, []byte(number(i*77%200)))
				wantErr(t, "Cut", e, api.OK)
			}
		}
		wantErr(t, "Commit", x.Commit(root), api.OK)
		return content(t, d), root
	}
	a, p := build()
	b, q := build()
	if !bytes.Equal(a, b) || p != q {
		t.Error("the same calls have other answers")
	}
}

var _ pager.Source = same(nil)
