package space_test

import (
	"maps"
	"math"
	"math/rand/v2"
	"slices"
	"strconv"
	"testing"

	"rubricator/api"
	"rubricator/space"
)

const (
	txnMost  = math.MaxUint64
	pageMost = math.MaxUint32
)

// The words of the chapter, told again: what each page is.

type kind int

const (
	ofMeta kind = iota
	inUse
	usable
	waiting
	fresh
	gone
)

func (k kind) String() string {
	return []string{"a meta's", "in use", "usable", "waiting", "fresh", "gone"}[k]
}

// asTold is a space that tells of each page below the end what it is.
type asTold struct {
	limit api.Page
	pages []kind
	since map[api.Page]uint64 // of waiting ones
}

// rightAsTold asks for one thing of the promise behind the other.
func rightAsTold(l []space.Record, end api.Page) bool {
	for i, r := range l {
		if i > 0 && l[i-1].Txn >= r.Txn {
			return false
		}
		if len(r.Pages) < 1 {
			return false
		}
		for k, p := range r.Pages {
			if p < 2 || p >= end || k > 0 && r.Pages[k-1] >= p {
				return false
			}
			for _, other := range l[:i] {
				if slices.Contains(other.Pages, p) {
					return false
				}
			}
		}
	}
	return true
}

func newAsTold(end, limit api.Page, l []space.Record, oldest uint64) (*asTold, api.Errno) {
	if !(end >= 2) || !(limit >= end) || !(limit <= 65536) || !rightAsTold(l, end) {
		return nil, api.ErrArg
	}
	m := &asTold{limit: limit, since: map[api.Page]uint64{}}
	for p := range end {
		m.pages = append(m.pages, inUse)
		if p < 2 {
			m.pages[p] = ofMeta
		}
	}
	for _, r := range l {
		for _, p := range r.Pages {
			m.pages[p] = usable
			if !(r.Txn <= oldest) {
				m.pages[p] = waiting
				m.since[p] = r.Txn
			}
		}
	}
	return m, api.OK
}

func (m *asTold) take() (api.Page, api.Errno) {
	p := slices.Index(m.pages, usable)
	if p < 0 {
		p = len(m.pages)
		if p == int(m.limit) {
			return 0, api.ErrFull
		}
		m.pages = append(m.pages, usable)
	}
	m.pages[p] = fresh
	return api.Page(p), api.OK
}

func (m *asTold) give(p api.Page) api.Errno {
	switch m.kindOf(p) {
	case fresh:
		m.pages[p] = usable
	case inUse:
		m.pages[p] = gone
	default:
		return api.ErrArg
	}
	return api.OK
}

// kindOf is what a page is; those that aren't below the end are as good as a meta's.
func (m *asTold) kindOf(p api.Page) kind {
	if int(p) >= len(m.pages) {
		return ofMeta
	}
	return m.pages[p]
}

// of are the pages of a kind.
func (m *asTold) of(k kind) []api.Page {
	var l []api.Page
	for p, x := range m.pages {
		if x == k {
			l = append(l, api.Page(p))
		}
	}
	return l
}

func (m *asTold) records(txn uint64) []space.Record {
	byTxn := map[uint64][]api.Page{}
	for _, p := range m.of(waiting) {
		byTxn[m.since[p]] = append(byTxn[m.since[p]], p)
	}
	if l := m.of(usable); l != nil {
		byTxn[0] = l
	}
	if l := m.of(gone); l != nil {
		byTxn[txn] = l
	}
	var l []space.Record
	for _, x := range slices.Sorted(maps.Keys(byTxn)) {
		l = append(l, rec(x, byTxn[x]...))
	}
	return l
}

// What the tests are made of.

func rec(txn uint64, pages ...api.Page) space.Record { return space.Record{Txn: txn, Pages: pages} }

func recs(l ...space.Record) []space.Record { return l }

// all are pages from one on, below another one.
func all(from, end api.Page) []api.Page {
	var l []api.Page
	for p := from; p < end; p++ {
		l = append(l, p)
	}
	return l
}

// deep is a list in new memory.
func deep(l []space.Record) []space.Record {
	var c []space.Record
	for _, r := range l {
		c = append(c, rec(r.Txn, slices.Clone(r.Pages)...))
	}
	return c
}

func same(a, b []space.Record) bool {
	return slices.EqualFunc(a, b, func(x, y space.Record) bool {
		return x.Txn == y.Txn && slices.Equal(x.Pages, y.Pages)
	})
}

// show is a list, short.
func show(l []space.Record) string {
	s := ""
	for _, r := range l {
		s += " " + strconv.FormatUint(r.Txn, 10) + ":"
		for i, p := range r.Pages {
			if i == 20 {
				s += ".. of " + strconv.Itoa(len(r.Pages))
				break
			}
			s += strconv.Itoa(int(p)) + ","
		}
	}
	return "(" + s + " )"
}

func made(t *testing.T, end, limit api.Page, l []space.Record, oldest uint64) *space.Space {
	t.Helper()
	s, e := space.New(end, limit, l, oldest)
	if e != api.OK || s == nil {
		t.Fatalf("New of end %d, limit %d, %s, oldest %d: error %d", end, limit, show(l), oldest, e)
	}
	return s
}

func wantRefused(t *testing.T, what string, end, limit api.Page, l []space.Record, oldest uint64) {
	t.Helper()
	if s, e := space.New(end, limit, l, oldest); e != api.ErrArg || s != nil {
		t.Errorf("%s: New of end %d, limit %d, %s tells error %d", what, end, limit, show(l), e)
	}
}

func wantRight(t *testing.T, what string, l []space.Record, end api.Page, want bool) {
	t.Helper()
	if got := space.Right(l, end); got != want {
		t.Errorf("%s: Right of %s, end %d: %t", what, show(l), end, got)
	}
	if rightAsTold(l, end) != want {
		t.Errorf("%s: the test itself is wrong", what)
	}
}

func wantTake(t *testing.T, what string, s *space.Space, want api.Page, e api.Errno) {
	t.Helper()
	if got, is := s.Take(); got != want || is != e {
		t.Errorf("%s: Take is %d, error %d; want %d, error %d", what, got, is, want, e)
	}
}

func wantGive(t *testing.T, what string, s *space.Space, p api.Page, want api.Errno) {
	t.Helper()
	if got := s.Give(p); got != want {
		t.Errorf("%s: Give of %d tells error %d, want %d", what, p, got, want)
	}
}

// wantFresh holds which pages are fresh, of all up to some above the end.
func wantFresh(t *testing.T, what string, s *space.Space, want ...api.Page) {
	t.Helper()
	for p := range s.End() + 3 {
		if s.Fresh(p) != slices.Contains(want, p) {
			t.Errorf("%s: Fresh of %d: %t", what, p, s.Fresh(p))
		}
	}
}

func wantCounts(t *testing.T, what string, s *space.Space, end api.Page, usable int) {
	t.Helper()
	if s.End() != end || s.Usable() != usable {
		t.Errorf("%s: End %d, want %d, Usable %d, want %d", what, s.End(), end, s.Usable(), usable)
	}
}

func wantRecords(t *testing.T, what string, s *space.Space, txn uint64, want ...space.Record) {
	t.Helper()
	if got := s.Records(txn); !same(got, want) {
		t.Errorf("%s: Records of %d are %s, want %s", what, txn, show(got), show(want))
	}
}

// wantAsTold holds all that a space tells against the words.
func wantAsTold(t *testing.T, what string, s *space.Space, m *asTold, txn uint64) {
	t.Helper()
	wantFresh(t, what, s, m.of(fresh)...)
	wantCounts(t, what, s, api.Page(len(m.pages)), len(m.of(usable)))
	wantRecords(t, what, s, txn, m.records(txn)...)
}

// each is a space with a page of each kind: metas 0 and 1, in use 2, usable 3 and 4, waiting 5 and 6, fresh 7 and 8, gone 9.
func each(t *testing.T) *space.Space {
	t.Helper()
	s := made(t, 10, 12, recs(rec(2, 3, 7), rec(3, 4, 8), rec(6, 6), rec(9, 5)), 3)
	for _, want := range []api.Page{3, 4, 7, 8} {
		wantTake(t, "each kind", s, want, api.OK)
	}
	for _, p := range []api.Page{4, 9, 3} {
		wantGive(t, "each kind", s, p, api.OK)
	}
	return s
}

func wantEach(t *testing.T, what string, s *space.Space) {
	t.Helper()
	wantFresh(t, what, s, 7, 8)
	wantCounts(t, what, s, 10, 2)
	wantRecords(t, what, s, 12, rec(0, 3, 4), rec(6, 6), rec(9, 5), rec(12, 9))
}

// P8.1

func TestP81Right(t *testing.T) {
	for _, x := range []struct {
		what string
		l    []space.Record
		end  api.Page
		want bool
	}{
		{"nothing", nil, 0, true},
		{"nothing", recs(), 1, true},
		{"nothing", nil, 2, true},
		{"nothing", nil, pageMost, true},
		{"one", recs(rec(1, 2)), 3, true},
		{"a Txn of 0", recs(rec(0, 2)), 3, true},
		{"the greatest Txn", recs(rec(txnMost, 2)), 3, true},
		{"Txns rise", recs(rec(0, 2), rec(1, 3), rec(txnMost-1, 4), rec(txnMost, 5)), 6, true},
		{"Txns rise above 32 bits", recs(rec(1, 2), rec(1<<32, 3), rec(1<<32+1, 4)), 6, true},
		{"Txns are the same", recs(rec(4, 2), rec(4, 3)), 6, false},
		{"Txns are the same, 0", recs(rec(0, 2), rec(0, 3)), 6, false},
		{"Txns are the same, at the end", recs(rec(3, 2), rec(4, 3), rec(4, 4)), 6, false},
		{"Txns fall", recs(rec(5, 2), rec(4, 3)), 6, false},
		{"Txns fall, at the end", recs(rec(3, 2), rec(5, 3), rec(4, 4)), 6, false},
		{"Txns fall to 0", recs(rec(txnMost, 2), rec(0, 3)), 6, false},
		{"Txns fall, though their lower 32 bits rise", recs(rec(1<<32+1, 2), rec(2, 3)), 6, false},
		{"no page", recs(rec(1)), 6, false},
		{"no page, an empty list", recs(space.Record{Txn: 1, Pages: []api.Page{}}), 6, false},
		{"no page, ahead", recs(rec(1), rec(2, 3)), 6, false},
		{"no page, behind", recs(rec(1, 3), rec(2)), 6, false},
		{"pages rise", recs(rec(1, 2, 3, 5)), 6, true},
		{"pages are the same", recs(rec(1, 3, 3)), 6, false},
		{"pages are the same, at the end", recs(rec(1, 2, 3, 3)), 6, false},
		{"pages fall", recs(rec(1, 4, 3)), 6, false},
		{"pages fall, at the end", recs(rec(1, 2, 4, 3)), 6, false},
		{"pages fall, in the other one", recs(rec(1, 2), rec(2, 4, 3)), 6, false},
		{"pages fall from one Record to the other", recs(rec(1, 4, 5), rec(2, 2, 3)), 6, true},
		{"page 0", recs(rec(1, 0)), 6, false},
		{"page 0, ahead", recs(rec(1, 0, 2)), 6, false},
		{"page 1", recs(rec(1, 1)), 6, false},
		{"page 1, ahead", recs(rec(1, 1, 2)), 6, false},
		{"page 1, in the other one", recs(rec(1, 3), rec(2, 1)), 6, false},
		{"page 2", recs(rec(1, 2)), 6, true},
		{"just below the end", recs(rec(1, 5)), 6, true},
		{"the end", recs(rec(1, 6)), 6, false},
		{"the end, behind", recs(rec(1, 5, 6)), 6, false},
		{"the end, in the other one", recs(rec(1, 5), rec(2, 6)), 6, false},
		{"above the end", recs(rec(1, 7)), 6, false},
		{"the greatest page", recs(rec(1, pageMost)), 6, false},
		{"the greatest page below the greatest end", recs(rec(1, 2, pageMost-1)), pageMost, true},
		{"the greatest page and end", recs(rec(1, pageMost)), pageMost, false},
		{"page 2, an end of 2", recs(rec(1, 2)), 2, false},
		{"page 1, an end of 2", recs(rec(1, 1)), 2, false},
		{"page 0, an end of 1", recs(rec(1, 0)), 1, false},
		{"page 2, an end of 0", recs(rec(1, 2)), 0, false},
		{"a page in two", recs(rec(1, 3), rec(2, 3)), 6, false},
		{"a page in two, not on end", recs(rec(1, 3), rec(2, 2), rec(3, 3)), 6, false},
		{"a page in two, among others", recs(rec(1, 2, 4), rec(2, 3, 4, 5)), 6, false},
	} {
		wantRight(t, x.what, x.l, x.end, x.want)
		if x.end < 2 || x.end > 65536 {
			continue
		}
		if x.want {
			made(t, x.end, 65536, x.l, 0)
		} else {
			wantRefused(t, x.what, x.end, 65536, x.l, txnMost)
		}
	}
}

// lists are all lists of pages below some, of at most as many.
func lists(below api.Page, most int) [][]api.Page {
	l := [][]api.Page{nil}
	for from := 0; most > 0; most-- {
		to := len(l)
		for _, x := range l[from:to] {
			for p := range below {
				l = append(l, append(slices.Clone(x), p))
			}
		}
		from = to
	}
	return l
}

func TestP81AllOfTwo(t *testing.T) {
	var l []space.Record
	for txn := range uint64(3) {
		for _, pages := range lists(5, 2) {
			l = append(l, rec(txn, pages...))
		}
	}
	for end := range api.Page(6) {
		for _, a := range l {
			wantRight(t, "one", recs(a), end, rightAsTold(recs(a), end))
			for _, b := range l {
				wantRight(t, "two", recs(a, b), end, rightAsTold(recs(a, b), end))
			}
		}
	}
}

func TestP81AllOfOnePage(t *testing.T) {
	for end := range api.Page(6) {
		for txns := range 27 {
			for _, pages := range lists(5, 3) {
				var l []space.Record
				x := txns
				for _, p := range pages {
					l = append(l, rec(uint64(x%3), p))
					x /= 3
				}
				wantRight(t, "pages of their own", l, end, rightAsTold(l, end))
			}
		}
	}
}

func TestP81EndsAndLimits(t *testing.T) {
	edges := []api.Page{0, 1, 2, 3, 4, 255, 256, 65534, 65535, 65536, 65537, 65538, 131072, 1 << 31, pageMost - 1, pageMost}
	for _, end := range edges {
		for _, limit := range edges {
			if end < 2 || limit < end || limit > 65536 {
				wantRefused(t, "an end and a limit", end, limit, nil, 0)
				continue
			}
			s := made(t, end, limit, nil, 0)
			wantCounts(t, "an end and a limit", s, end, 0)
			if end == limit {
				wantTake(t, "the end is the limit", s, 0, api.ErrFull)
			} else {
				wantTake(t, "an end and a limit", s, end, api.OK)
			}
		}
	}
	wantRefused(t, "an end of 1, and nothing else", 1, 100, recs(), 0)
	wantRefused(t, "a limit just below the end", 7, 6, recs(rec(1, 3)), 0)
	made(t, 7, 7, recs(rec(1, 3)), 0)
	made(t, 7, 8, recs(rec(1, 3)), 0)
	wantRefused(t, "a limit one above the most", 7, 65537, recs(rec(1, 3)), 0)
}

func TestP81Oldest(t *testing.T) {
	l := recs(rec(3, 5), rec(7, 2, 6), rec(9, 4))
	for _, x := range []struct {
		oldest uint64
		usable []api.Page
		waits  []space.Record
	}{
		{0, nil, l},
		{2, nil, l},
		{3, []api.Page{5}, l[1:]},
		{4, []api.Page{5}, l[1:]},
		{6, []api.Page{5}, l[1:]},
		{7, []api.Page{2, 5, 6}, l[2:]},
		{8, []api.Page{2, 5, 6}, l[2:]},
		{9, []api.Page{2, 4, 5, 6}, nil},
		{10, []api.Page{2, 4, 5, 6}, nil},
		{txnMost, []api.Page{2, 4, 5, 6}, nil},
	} {
		what := "oldest " + strconv.FormatUint(x.oldest, 10)
		s := made(t, 8, 9, l, x.oldest)
		want := deep(x.waits)
		if x.usable != nil {
			want = append(recs(rec(0, x.usable...)), want...)
		}
		wantRecords(t, what, s, 20, want...)
		wantCounts(t, what, s, 8, len(x.usable))
		wantFresh(t, what, s)
		for p := range api.Page(10) {
			e := api.ErrArg
			if p == 3 || p == 7 {
				e = api.OK // all others are in use
			}
			wantGive(t, what, s, p, e)
		}
		for _, p := range append(x.usable, 8) {
			wantTake(t, what, s, p, api.OK)
		}
		wantTake(t, what, s, 0, api.ErrFull)
	}
}

func TestP81OldestAtTheEdges(t *testing.T) {
	l := recs(rec(0, 2), rec(1, 3), rec(1<<32, 4), rec(txnMost-1, 5), rec(txnMost, 6))
	for _, x := range []struct {
		oldest uint64
		want   int
	}{{0, 1}, {1, 2}, {1<<32 - 1, 2}, {1 << 32, 3}, {1 << 63, 3}, {txnMost - 2, 3}, {txnMost - 1, 4}, {txnMost, 5}} {
		wantCounts(t, "oldest "+strconv.FormatUint(x.oldest, 10), made(t, 7, 7, l, x.oldest), 7, x.want)
	}
}

func TestP81NoRecords(t *testing.T) {
	for _, l := range [][]space.Record{nil, {}} {
		s := made(t, 4, 5, l, txnMost)
		wantCounts(t, "no Records", s, 4, 0)
		wantRecords(t, "no Records", s, 1)
		wantGive(t, "no Records", s, 2, api.OK)
		wantGive(t, "no Records", s, 3, api.OK)
		wantRecords(t, "no Records", s, 1, rec(1, 2, 3))
	}
	s := made(t, 2, 2, nil, 0)
	wantTake(t, "nothing but metas", s, 0, api.ErrFull)
	wantRecords(t, "nothing but metas", s, 1)
}

// What is handed in is neither changed nor kept.
func TestP81HandedIn(t *testing.T) {
	l := recs(rec(2, 3, 7), rec(6, 4, 5), rec(8, 2))
	was := deep(l)
	if !space.Right(l, 9) || !same(l, was) {
		t.Errorf("Right changes what is handed in: %s", show(l))
	}
	s := made(t, 9, 12, l, 2)
	wantTake(t, "handed in", s, 3, api.OK)
	wantGive(t, "handed in", s, 8, api.OK)
	wantRecords(t, "handed in", s, 9, rec(0, 7), rec(6, 4, 5), rec(8, 2), rec(9, 8))
	if !same(l, was) {
		t.Errorf("what is handed in is changed: %s", show(l))
	}
	for _, r := range l {
		clear(r.Pages)
	}
	clear(l)
	wantRecords(t, "handed in, and changed", s, 9, rec(0, 7), rec(6, 4, 5), rec(8, 2), rec(9, 8))
	wantGive(t, "handed in, and changed", s, 4, api.ErrArg)
	wantTake(t, "handed in, and changed", s, 7, api.OK)
}

// P8.2

func TestP82Example(t *testing.T) {
	for end := api.Page(7); end < 20; end++ {
		s := made(t, end, 100, recs(rec(3, 5), rec(7, 6)), 4)
		wantCounts(t, "the chapter's", s, end, 1)
		wantTake(t, "the chapter's", s, 5, api.OK)
		wantTake(t, "the chapter's", s, end, api.OK)
		wantFresh(t, "the chapter's", s, 5, end)
		wantCounts(t, "the chapter's", s, end+1, 0)
	}
}

func TestP82TakeUntilTheLimit(t *testing.T) {
	s := made(t, 9, 11, recs(rec(1, 4, 8), rec(2, 2, 3), rec(5, 5)), 2)
	for i, p := range []api.Page{2, 3, 4, 8} {
		wantCounts(t, "usable ones", s, 9, 4-i)
		wantTake(t, "usable ones", s, p, api.OK)
	}
	wantCounts(t, "no usable one", s, 9, 0)
	wantTake(t, "the end", s, 9, api.OK)
	wantCounts(t, "the end", s, 10, 0)
	wantTake(t, "the end", s, 10, api.OK)
	for range 3 {
		wantTake(t, "the limit", s, 0, api.ErrFull)
		wantCounts(t, "the limit", s, 11, 0)
		wantFresh(t, "the limit", s, 2, 3, 4, 8, 9, 10)
	}
	wantGive(t, "the limit", s, 6, api.OK)
	wantTake(t, "the limit, and a page gone", s, 0, api.ErrFull)
	wantGive(t, "the limit", s, 9, api.OK)
	wantTake(t, "the limit, and a fresh one given", s, 9, api.OK)
	wantTake(t, "the limit", s, 0, api.ErrFull)
}

// A usable page is taken even if the end is the limit.
func TestP82TakeAtTheLimit(t *testing.T) {
	s := made(t, 5, 5, recs(rec(1, 4)), 1)
	wantTake(t, "a usable one", s, 4, api.OK)
	wantTake(t, "none", s, 0, api.ErrFull)
	s = made(t, 5, 5, recs(rec(2, 4)), 1)
	wantTake(t, "a waiting one", s, 0, api.ErrFull)
}

func TestP82GiveOfEachKind(t *testing.T) {
	for _, x := range []struct {
		what string
		p    api.Page
		e    api.Errno
	}{
		{"a meta's", 0, api.ErrArg},
		{"a meta's", 1, api.ErrArg},
		{"in use", 2, api.OK},
		{"usable", 3, api.ErrArg},
		{"usable", 4, api.ErrArg},
		{"waiting", 5, api.ErrArg},
		{"waiting", 6, api.ErrArg},
		{"fresh", 7, api.OK},
		{"fresh", 8, api.OK},
		{"gone", 9, api.ErrArg},
		{"the end", 10, api.ErrArg},
		{"above the end", 11, api.ErrArg},
		{"the limit", 12, api.ErrArg},
		{"above the limit", 13, api.ErrArg},
		{"far above the limit", 65536 + 2, api.ErrArg},
		{"the greatest one", pageMost, api.ErrArg},
	} {
		s := each(t)
		wantGive(t, x.what, s, x.p, x.e)
		if x.e != api.OK {
			wantEach(t, x.what+", given", s)
		}
		wantGive(t, x.what+", given twice", s, x.p, api.ErrArg)
		wantFresh(t, "Give", each(t), 7, 8)
	}
	s := each(t)
	wantGive(t, "in use", s, 2, api.OK)
	wantRecords(t, "in use, given", s, 12, rec(0, 3, 4), rec(6, 6), rec(9, 5), rec(12, 2, 9))
	wantFresh(t, "in use, given", s, 7, 8)
	s = each(t)
	wantGive(t, "fresh", s, 8, api.OK)
	wantRecords(t, "fresh, given", s, 12, rec(0, 3, 4, 8), rec(6, 6), rec(9, 5), rec(12, 9))
	wantFresh(t, "fresh, given", s, 7)
	wantCounts(t, "fresh, given", s, 10, 3)
}

func TestP82FreshOfEachKind(t *testing.T) {
	s := each(t)
	wantEach(t, "each kind", s)
	for _, p := range []api.Page{10, 11, 12, 13, 65536, 65536 + 7, 1 << 31, pageMost} {
		if s.Fresh(p) {
			t.Errorf("Fresh of %d, above all", p)
		}
	}
	wantTake(t, "each kind", s, 3, api.OK)
	wantTake(t, "each kind", s, 4, api.OK)
	wantTake(t, "each kind", s, 10, api.OK)
	wantFresh(t, "taken", s, 3, 4, 7, 8, 10)
}

func TestP82TakenGivenTaken(t *testing.T) {
	s := made(t, 6, 8, recs(rec(1, 3), rec(2, 5)), 2)
	for _, p := range []api.Page{3, 5, 6} {
		wantTake(t, "taken", s, p, api.OK)
	}
	for range 3 {
		wantGive(t, "given", s, 6, api.OK)
		wantCounts(t, "given, at the end", s, 7, 1) // the end stays
		wantGive(t, "given", s, 3, api.OK)
		wantFresh(t, "given", s, 5)
		wantRecords(t, "given", s, 9, rec(0, 3, 6))
		wantTake(t, "taken again", s, 3, api.OK)
		wantTake(t, "taken again", s, 6, api.OK)
		wantFresh(t, "taken again", s, 3, 5, 6)
		wantRecords(t, "taken again", s, 9)
		wantCounts(t, "taken again", s, 7, 0)
	}
	wantGive(t, "given", s, 5, api.OK)
	wantTake(t, "the lowest one, behind lower ones", s, 5, api.OK)
	wantTake(t, "the end", s, 7, api.OK)
	wantTake(t, "the limit", s, 0, api.ErrFull)
}

// Whatever was given last, the lowest one is taken.
func TestP82LowestFirst(t *testing.T) {
	chance := rand.New(rand.NewPCG(8, 2))
	for range 50 {
		s := made(t, 2, 40, nil, 0)
		for p := range api.Page(38) {
			wantTake(t, "from the end", s, p+2, api.OK)
		}
		l := all(2, 40)
		chance.Shuffle(len(l), func(i, k int) { l[i], l[k] = l[k], l[i] })
		l = l[:1+chance.IntN(38)]
		for _, p := range l {
			wantGive(t, "shuffled", s, p, api.OK)
		}
		slices.Sort(l)
		wantRecords(t, "shuffled", s, 1, rec(0, l...))
		for _, p := range l {
			wantTake(t, "shuffled", s, p, api.OK)
		}
		wantTake(t, "all of them", s, 0, api.ErrFull)
	}
}

func TestP82AsManyAsMayBe(t *testing.T) {
	s := made(t, 2, 65536, nil, 0)
	for p := api.Page(2); p < 65536; p++ {
		wantTake(t, "each page", s, p, api.OK)
	}
	wantTake(t, "no page", s, 0, api.ErrFull)
	wantCounts(t, "no page", s, 65536, 0)
	for p := api.Page(65535); p >= 2; p-- {
		wantGive(t, "each page", s, p, api.OK)
	}
	wantGive(t, "the limit", s, 65536, api.ErrArg)
	wantCounts(t, "each page given", s, 65536, 65534)
	wantRecords(t, "each page given", s, 1, rec(0, all(2, 65536)...))
	for p := api.Page(2); p < 65536; p++ {
		wantTake(t, "each page again", s, p, api.OK)
	}
	wantTake(t, "no page again", s, 0, api.ErrFull)

	s = made(t, 65536, 65536, recs(rec(4, all(2, 65536)...)), 3)
	wantTake(t, "all are waiting", s, 0, api.ErrFull)
	s = made(t, 65536, 65536, recs(rec(4, all(2, 65536)...)), 4)
	wantTake(t, "all are usable", s, 2, api.OK)
	wantCounts(t, "all are usable", s, 65536, 65533)
}

func TestP82OfNil(t *testing.T) {
	var s *space.Space
	wantTake(t, "nil", s, 0, api.ErrArg)
	for _, p := range []api.Page{0, 1, 2, 65536, pageMost} {
		wantGive(t, "nil", s, p, api.ErrArg)
		if s.Fresh(p) {
			t.Errorf("nil: Fresh of %d", p)
		}
	}
	wantCounts(t, "nil", s, 0, 0)
}

// One that New didn't make answers too.
func TestP82OfNothing(t *testing.T) {
	s := new(space.Space)
	wantTake(t, "nothing", s, 0, api.ErrFull)
	for _, p := range []api.Page{0, 1, 2, pageMost} {
		wantGive(t, "nothing", s, p, api.ErrArg)
	}
	wantFresh(t, "nothing", s)
	wantCounts(t, "nothing", s, 0, 0)
	wantRecords(t, "nothing", s, 1)
}

// P8.3

func TestP83Records(t *testing.T) {
	s := made(t, 12, 20, recs(rec(2, 9), rec(4, 3, 6), rec(7, 8, 10), rec(8, 2, 5)), 4)
	wantRecords(t, "ahead of all", s, 9, rec(0, 3, 6, 9), rec(7, 8, 10), rec(8, 2, 5))
	wantRecords(t, "of a greater one", s, txnMost, rec(0, 3, 6, 9), rec(7, 8, 10), rec(8, 2, 5))
	wantTake(t, "one", s, 3, api.OK)
	wantRecords(t, "one taken", s, 9, rec(0, 6, 9), rec(7, 8, 10), rec(8, 2, 5))
	wantGive(t, "in use", s, 11, api.OK)
	wantGive(t, "in use", s, 4, api.OK)
	wantGive(t, "in use", s, 7, api.OK)
	wantRecords(t, "some gone", s, 9, rec(0, 6, 9), rec(7, 8, 10), rec(8, 2, 5), rec(9, 4, 7, 11))
	wantRecords(t, "some gone, of a greater one", s, txnMost, rec(0, 6, 9), rec(7, 8, 10), rec(8, 2, 5), rec(txnMost, 4, 7, 11))
	wantTake(t, "two", s, 6, api.OK)
	wantTake(t, "three", s, 9, api.OK)
	wantRecords(t, "none usable", s, 9, rec(7, 8, 10), rec(8, 2, 5), rec(9, 4, 7, 11))
	wantTake(t, "the end", s, 12, api.OK)
	wantRecords(t, "the end taken", s, 9, rec(7, 8, 10), rec(8, 2, 5), rec(9, 4, 7, 11))
	wantGive(t, "the end", s, 12, api.OK)
	wantRecords(t, "the end given", s, 9, rec(0, 12), rec(7, 8, 10), rec(8, 2, 5), rec(9, 4, 7, 11))
}

// Each of the three parts may be there, or not.
func TestP83Parts(t *testing.T) {
	for mix := range 8 {
		var l, want []space.Record
		if mix&1 != 0 {
			l = append(l, rec(2, 3, 5))
			want = append(want, rec(0, 3, 5))
		}
		if mix&2 != 0 {
			l = append(l, rec(6, 4, 7), rec(8, 2))
			want = append(want, rec(6, 4, 7), rec(8, 2))
		}
		s := made(t, 10, 10, l, 5)
		if mix&4 != 0 {
			wantGive(t, "in use", s, 9, api.OK)
			wantGive(t, "in use", s, 6, api.OK)
			want = append(want, rec(9, 6, 9))
		}
		wantRecords(t, "parts "+strconv.Itoa(mix), s, 9, want...)
	}
}

// The least txn that may be, without waiting Records and with one.
func TestP83LeastTxn(t *testing.T) {
	s := made(t, 5, 5, recs(rec(0, 2)), 0)
	wantGive(t, "in use", s, 3, api.OK)
	wantRecords(t, "1", s, 1, rec(0, 2), rec(1, 3))
	s = made(t, 5, 5, recs(rec(1, 2)), 0)
	wantGive(t, "in use", s, 3, api.OK)
	wantRecords(t, "2", s, 2, rec(1, 2), rec(2, 3))
	s = made(t, 5, 5, recs(rec(txnMost-1, 2)), txnMost-2)
	wantGive(t, "in use", s, 3, api.OK)
	wantRecords(t, "the greatest one", s, txnMost, rec(txnMost-1, 2), rec(txnMost, 3))
}

func TestP83IsNewMemory(t *testing.T) {
	s := each(t)
	for range 2 {
		l := s.Records(12)
		kept := s.Records(12)
		for i, r := range l {
			clear(r.Pages)
			_ = append(r.Pages, 2)
			l[i] = rec(99, 98, 97)
		}
		_ = append(l, rec(100, 2))
		if !same(kept, recs(rec(0, 3, 4), rec(6, 6), rec(9, 5), rec(12, 9))) {
			t.Errorf("an answer shares memory with another one: %s", show(kept))
		}
		wantEach(t, "what was told is changed", s)
	}
	wantGive(t, "waiting", s, 5, api.ErrArg)
	wantGive(t, "gone", s, 9, api.ErrArg)
	for _, p := range []api.Page{3, 4, 10} {
		wantTake(t, "what was told is changed", s, p, api.OK)
	}
	wantRecords(t, "what was told is changed, and all taken", s, 12, rec(6, 6), rec(9, 5), rec(12, 9))
}

// No two lists of an answer share memory.
func TestP83ListsShareNothing(t *testing.T) {
	l := each(t).Records(12)
	for i := range l {
		grown := l[i].Pages[:cap(l[i].Pages)]
		was := deep(l)
		clear(grown)
		for k := range l {
			if k != i && !slices.Equal(l[k].Pages, was[k].Pages) {
				t.Errorf("Records %d and %d share memory", i, k)
			}
		}
		copy(l[i].Pages, was[i].Pages)
	}
}

// To tell changes nothing.
func TestP83ToTellChangesNothing(t *testing.T) {
	s := each(t)
	for _, txn := range []uint64{12, 10, 1000, txnMost} {
		s.Records(txn)
		wantEach(t, "told again", s)
	}
}

// Of a txn for which nothing is promised there is an answer too.
func TestP83OfOtherTxns(t *testing.T) {
	s := each(t)
	for _, txn := range []uint64{0, 1, 6, 7, 9} {
		s.Records(txn)
		wantEach(t, "another txn", s)
	}
}

func TestP83OfNil(t *testing.T) {
	var s *space.Space
	for _, txn := range []uint64{0, 1, txnMost} {
		if l := s.Records(txn); len(l) != 0 {
			t.Errorf("nil: Records are %s", show(l))
		}
	}
}

// P8.4

// step makes one of so many calls, of the space and of the words: a Take, or a Give of a page.
func step(t *testing.T, s *space.Space, m *asTold, call int) {
	t.Helper()
	if call > 0 {
		p := api.Page(call - 1)
		was := m.kindOf(p)
		wantGive(t, was.String(), s, p, m.give(p))
		return
	}
	was := &asTold{pages: slices.Clone(m.pages)}
	want, is := m.take()
	got, e := s.Take()
	if got != want || e != is {
		t.Errorf("Take is %d, error %d; want %d, error %d", got, e, want, is)
	}
	if k := was.kindOf(got); e == api.OK && int(got) < len(was.pages) && k != usable {
		t.Errorf("page %d is taken, which is %s", got, k)
	}
}

// both are a space and the words of it.
func both(t *testing.T, end, limit api.Page, l []space.Record, oldest uint64) (*space.Space, *asTold) {
	t.Helper()
	m, e := newAsTold(end, limit, l, oldest)
	if e != api.OK {
		t.Fatal("the test itself is wrong")
	}
	return made(t, end, limit, l, oldest), m
}

// All calls, each behind each, of a small space with pages of all kinds.
func TestP84EachBehindEach(t *testing.T) {
	const calls, behind = 9, 5 // Take, and Give of pages 0 to 7
	many := 1
	for range behind {
		many *= calls
	}
	for n := range many {
		s, m := both(t, 6, 7, recs(rec(3, 3), rec(5, 5), rec(7, 2)), 5)
		x := n
		for range behind {
			step(t, s, m, x%calls)
			x /= calls
		}
		wantAsTold(t, "calls "+strconv.Itoa(n), s, m, 8)
		if !space.Right(s.Records(8), s.End()) {
			t.Fatalf("calls %d: Records aren't Right: %s", n, show(s.Records(8)))
		}
		if t.Failed() {
			return
		}
	}
}

// someRecords are Records of pages below an end, and the Txn above them.
func someRecords(chance *rand.Rand, end api.Page) ([]space.Record, uint64) {
	byTxn := map[uint64][]api.Page{}
	for p := api.Page(2); p < end; p++ {
		if txn := chance.Uint64N(9); txn < 6 {
			byTxn[txn] = append(byTxn[txn], p)
		}
	}
	var l []space.Record
	for _, txn := range slices.Sorted(maps.Keys(byTxn)) {
		l = append(l, rec(txn, byTxn[txn]...))
	}
	return l, 6
}

func TestP84ManyCalls(t *testing.T) {
	chance := rand.New(rand.NewPCG(8, 4))
	for n := range 300 {
		end := 2 + api.Page(chance.IntN(30))
		l, txn := someRecords(chance, end)
		s, m := both(t, end, end+api.Page(chance.IntN(9)), l, chance.Uint64N(8))
		for range 100 {
			call := 0
			if chance.IntN(2) == 0 {
				call = 1 + chance.IntN(int(end)+10)
			}
			step(t, s, m, call)
			wantAsTold(t, "change "+strconv.Itoa(n), s, m, txn)
			if !space.Right(s.Records(txn), s.End()) {
				t.Errorf("change %d: Records aren't Right: %s", n, show(s.Records(txn)))
			}
			if t.Failed() {
				return
			}
		}
	}
}

// history is changes, one behind the other: which pages each one's end has in use, and what is free behind it.
type history struct {
	used    []map[api.Page]bool // by Txn
	end     api.Page
	records []space.Record
}

// change makes one more: some pages of the last one are let go of, some are taken, of which some are let go of again. None that a change from oldest on has in use may be taken.
func (h *history) change(t *testing.T, chance *rand.Rand, oldest uint64) {
	t.Helper()
	txn := uint64(len(h.used))
	s := made(t, h.end, 90, h.records, oldest)
	used := maps.Clone(h.used[txn-1])
	for range chance.IntN(12) {
		if l := slices.Sorted(maps.Keys(used)); len(l) > 0 && chance.IntN(5) < 2+len(l)/20 {
			p := l[chance.IntN(len(l))]
			wantGive(t, "a page of the last change, or fresh", s, p, api.OK)
			delete(used, p)
			continue
		}
		p, e := s.Take()
		if e == api.ErrFull {
			continue
		}
		if used[p] || p < 2 || e != api.OK {
			t.Fatalf("change %d: Take is %d, error %d", txn, p, e)
		}
		for old := oldest; old < txn; old++ {
			if h.used[old][p] {
				t.Fatalf("change %d takes page %d, which change %d has in use (oldest %d)", txn, p, old, oldest)
			}
		}
		used[p] = true
	}
	h.used = append(h.used, used)
	h.end, h.records = s.End(), s.Records(txn)
}

// parted tells whether each page below the end but the metas is in use, or free: just one of these.
func (h *history) parted() bool {
	free := map[api.Page]bool{}
	for _, r := range h.records {
		for _, p := range r.Pages {
			free[p] = true
		}
	}
	used := h.used[len(h.used)-1]
	for p := api.Page(2); p < h.end; p++ {
		if used[p] == free[p] {
			return false
		}
	}
	return len(used)+len(free) == int(h.end)-2
}

func TestP84Changes(t *testing.T) {
	chance := rand.New(rand.NewPCG(84, 84))
	for range 20 {
		h := &history{used: []map[api.Page]bool{{}}, end: 2}
		oldest := uint64(0)
		for n := range uint64(150) {
			if oldest < n && chance.IntN(3) == 0 {
				oldest += chance.Uint64N(n-oldest) + 1 // readers end
			}
			h.change(t, chance, oldest)
			if !space.Right(h.records, h.end) {
				t.Fatalf("behind change %d Records aren't Right: %s, end %d", n+1, show(h.records), h.end)
			}
			if !h.parted() {
				t.Fatalf("behind change %d pages are lost, or both in use and free: %s, end %d", n+1, show(h.records), h.end)
			}
		}
	}
}
