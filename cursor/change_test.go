package cursor_test

import (
	"maps"
	"math/rand/v2"
	"slices"
	"strconv"
	"strings"
	"testing"

	"rubricator/api"
	"rubricator/cursor"
	"rubricator/tree"
)

// P13.3: Set and Cut, and where it stands then.

// edited is a cursor of Edit, beside a twin, whose tree is changed by chapter 12's calls alone.
type edited struct {
	*pair
	m, twin *made
}

func edit(t *testing.T, size int, has map[string]string) *edited {
	t.Helper()
	w := &edited{m: plant(t, size, has), twin: plant(t, size, has)}
	w.pair = &pair{t: t, what: "Edit", c: cursor.Edit(w.m.x, w.m.root), told: toldOf(has)}
	return w
}

// set sets; what is handed in is changed behind the call.
func (w *edited) set(value string) {
	w.t.Helper()
	what := "Set of " + show(w.keys[w.at]) + ", " + strconv.Itoa(len(value)) + " bytes"
	b := []byte(value)
	wantErr(w.t, what, w.c.Set(b), api.OK)
	if string(b) != value {
		w.t.Fatalf("%s: what is handed in is changed", what)
	}
	scratch(b)
	root, e := tree.Put(w.twin.x, w.twin.root, []byte(w.keys[w.at]), []byte(value))
	w.told.set(value)
	w.changed(what, root, e)
}

func (w *edited) cut() {
	w.t.Helper()
	what := "Cut of " + show(w.keys[w.at])
	wantErr(w.t, what, w.c.Cut(), api.OK)
	root, is, e := tree.Cut(w.twin.x, w.twin.root, []byte(w.keys[w.at]))
	if !is {
		w.t.Fatalf("%s: it isn't there", what)
	}
	w.told.cut()
	w.changed(what, root, e)
}

// changed holds where it stands, and its tree, against what should have become of them.
func (w *edited) changed(what string, root api.Page, e api.Errno) {
	w.t.Helper()
	wantErr(w.t, what+", of the twin", e, api.OK)
	w.stands(what)
	w.m.root, w.twin.root = w.c.Root(), root
	if w.m.root != root || (root == 0) != (len(w.keys) == 0) {
		w.t.Fatalf("%s: root %d of %d keys, want %d", what, w.m.root, len(w.keys), root)
	}
	wantTree(w.t, what, cursor.New(w.m.x, root), w.told)
}

// commit commits both, and begins anew, with a cursor that stands nowhere.
func (w *edited) commit() {
	w.t.Helper()
	w.m.commit(w.t)
	w.twin.commit(w.t)
	wantTree(w.t, "committed", cursor.New(w.m.f, w.m.f.Meta().Main), w.told)
	w.c, w.at = cursor.Edit(w.m.x, w.m.root), nowhere
	w.stands("a commit")
}

// wantTree holds all that a cursor tells against a row of keys.
func wantTree(t *testing.T, what string, c *cursor.Cursor, want told) {
	t.Helper()
	i := 0
	for ok := c.First(); ok; ok = c.Next() {
		if key := string(c.Key()); i == len(want.keys) || key != want.keys[i] || string(c.Value()) != want.has[key] {
			t.Fatalf("%s: key %d is %s, of %d", what, i, show(key), len(want.keys))
		}
		i++
	}
	if i != len(want.keys) || c.Err() != api.OK {
		t.Fatalf("%s: %d keys, want %d, error %d", what, i, len(want.keys), c.Err())
	}
}

// mostHere is how many bytes a value has, at most, that is in its key's page.
func mostHere(size, key int) int { return (size-4)/4 - 2 - 4 - key }

// The first, the last, the only key, and those between, are cut, and it goes on from there, till none is left.
func TestP133Cut(t *testing.T) {
	for _, size := range []int{512, 1024} {
		for name, has := range forest(size) {
			for _, from := range []string{"First", "Last", "the middle", "behind each second one"} {
				t.Run(strconv.Itoa(size)+" "+name+" "+from, func(t *testing.T) {
					t.Parallel()
					w := edit(t, size, has)
					for i := 0; len(w.keys) > 0; i++ {
						switch {
						case from == "First" && i > 0: // it stands there
						case from == "the middle":
							w.put(len(w.keys) / 2)
						case from == "behind each second one":
							w.does("Next", "")
							if w.at == nowhere {
								w.does("First", "")
							}
						default:
							w.does(from, "")
						}
						if w.cut(); i%25 == 20 {
							w.commit()
							w.does("First", "")
						}
					}
					if w.c.Cut() != api.ErrNone || w.c.Root() != 0 {
						t.Errorf("root %d, of none", w.c.Root())
					}
					w.stands("Cut of none")
					w.commit()
				})
			}
		}
	}
}

// Values that grow and shrink, in all pages: these are split and joined below it.
func TestP133Set(t *testing.T) {
	for _, size := range []int{512, 1024} {
		for name, has := range forest(size) {
			if len(has) > 130 {
				continue
			}
			t.Run(strconv.Itoa(size)+" "+name, func(t *testing.T) {
				t.Parallel()
				w := edit(t, size, has)
				for _, row := range []struct {
					going string
					many  func(i int) int
				}{
					{"Next", func(i int) int { return mostHere(size, len(w.keys[w.at])) }},
					{"Prev", func(i int) int { return 0 }},
					{"Next", func(i int) int { return i * 7 % size }},
					{"Prev", func(i int) int { return i % 2 * (mostHere(size, len(w.keys[w.at])) + 1) }},
					{"Next", func(i int) int { return i * i % (3 * size) }},
					{"Prev", func(i int) int { return i % 5 }},
				} {
					w.does(row.going, "")
					for i := 0; w.at != nowhere; i++ {
						w.set(text(row.many(i), i))
						w.does(row.going, "")
					}
					if row.going == "Prev" {
						w.commit()
					}
				}
			})
		}
	}
}

// A near value over a far one, and the other way round: each with each, and where it stands among others.
func TestP133NearAndFarOverOneAnother(t *testing.T) {
	for _, size := range []int{512, 4096} {
		most := mostHere(size, 1)
		lengths := []int{0, 1, most, most + 1, size - 8, size, 32767, 32768}
		for _, key := range []string{"a", "m", "z"} {
			w := edit(t, size, map[string]string{"a": "1", "m": "2", "z": "3"})
			w.does("Exact", key)
			for _, from := range lengths {
				for _, to := range lengths {
					w.set(text(from, 1))
					w.set(text(to, 2))
				}
			}
			w.commit()
		}
	}
}

// Set and Cut in rows by chance, with all that goes between them, and commits.
func TestP133LongRows(t *testing.T) {
	for _, size := range []int{512, 640, 4096} {
		for _, name := range []string{"one leaf", "two levels", "three levels", "near and far", "fronts of one another"} {
			t.Run(strconv.Itoa(size)+" "+name, func(t *testing.T) {
				t.Parallel()
				chance := rand.New(rand.NewPCG(133, uint64(size)))
				w := edit(t, size, some(forest(size)[name], 90))
				l := probes(w.keys)
				for len(w.keys) > 0 {
					switch {
					case chance.IntN(40) == 0:
						w.commit()
					case w.at == nowhere || chance.IntN(2) == 0:
						w.does(names()[chance.IntN(len(calls))], l[chance.IntN(len(l))])
					case chance.IntN(2) == 0:
						w.counts(l[chance.IntN(len(l))])
						w.cut()
					default:
						w.set(text(chance.IntN(2)*chance.IntN(size), 1))
					}
				}
				w.commit()
			})
		}
	}
}

// some are so many at most.
func some(has map[string]string, most int) map[string]string {
	has = maps.Clone(has)
	for _, key := range slices.Sorted(maps.Keys(has)) {
		if len(has) > most {
			delete(has, key)
		}
	}
	return has
}

// What was committed stays as it was, while a cursor changes it.
func TestP133TreesStay(t *testing.T) {
	has := forest(512)["two levels"]
	w := edit(t, 512, has)
	w.commit()
	old := &pair{t: t, what: "what was committed", c: cursor.New(w.m.f, w.m.root), told: toldOf(has)}
	w.does("First", "")
	for i := 0; w.at != nowhere; i++ {
		old.does("Next", "")
		if i%3 == 0 {
			w.set(text(i*5%300, i))
			w.does("Next", "")
		} else {
			w.cut()
		}
	}
	wantTree(t, "what was committed", cursor.New(w.m.f, w.m.f.Meta().Main), toldOf(has))
	wantErr(t, "Commit", w.m.x.Commit(w.c.Root()), api.OK)
	f := opened(t, w.m.d)
	wantTree(t, "opened again", cursor.New(f, f.Meta().Main), w.told)
}

// A Cut that isn't the last one stands where Next would have gone; NextWith goes on behind it.
func TestP133WhereItStandsBehindACut(t *testing.T) {
	has := map[string]string{"a": "1", "ab": "2", "abc": "3", "b": "4", "ba": "5"}
	for i, key := range slices.Sorted(maps.Keys(has)) {
		w := edit(t, 512, has)
		w.does("Exact", key)
		w.cut()
		w.does("NextWith", strings.Repeat("b", i%2))
		w = edit(t, 512, has)
		w.does("Exact", key)
		w.set("another")
		w.does("PrevWith", "a")
		w.does("Next", "")
	}
}
