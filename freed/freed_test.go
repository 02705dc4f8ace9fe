package freed_test

import (
	"bytes"
	"math"
	"math/rand/v2"
	"slices"
	"testing"

	"rubricator/api"
	"rubricator/branch"
	"rubricator/chain"
	"rubricator/freed"
	"rubricator/leaf"
	"rubricator/space"
)

const (
	txnMost  = math.MaxUint64
	pageMost = math.MaxUint32
)

// The words of the chapter, told again, pair by pair and byte by byte.

// roomAsTold fits pairs in, one by one.
func roomAsTold(size int) int {
	n := 0
	for left := size - 8; left >= 12; left -= 12 {
		n++
	}
	return n
}

func isSize(size int) bool { return 512 <= size && size <= 4096 }

func riseAsTold(l []freed.Pair) bool {
	for i := 1; i < len(l); i++ {
		a, b := l[i-1], l[i]
		if !(b.Txn > a.Txn || b.Txn == a.Txn && b.Page > a.Page) {
			return false
		}
	}
	return true
}

func gatherAsTold(l []freed.Pair) []space.Record {
	var told []space.Record
	for i, x := range l {
		if i == 0 || l[i-1].Txn != x.Txn {
			told = append(told, rec(x.Txn))
		}
		last := &told[len(told)-1]
		last.Pages = append(last.Pages, x.Page)
	}
	return told
}

// spreadAsTold takes pair by pair to the first row that has room.
func spreadAsTold(l []freed.Pair, pages, size int) [][]freed.Pair {
	rows := make([][]freed.Pair, pages)
	at := 0
	for _, x := range l {
		if len(rows[at]) == roomAsTold(size) {
			at++
		}
		rows[at] = append(rows[at], x)
	}
	return rows
}

// layAsTold lays pairs, of which n is told as how many there are.
func layAsTold(n int, next api.Page, l []freed.Pair, size int) []byte {
	b := []byte{4, 0, byte(n >> 8), byte(n), byte(next >> 24), byte(next >> 16), byte(next >> 8), byte(next)}
	for _, x := range l {
		for shift := 56; shift >= 0; shift -= 8 {
			b = append(b, byte(x.Txn>>shift))
		}
		for shift := 24; shift >= 0; shift -= 8 {
			b = append(b, byte(x.Page>>shift))
		}
	}
	return append(b, make([]byte, max(0, size-len(b)))...)[:size]
}

func pageAsTold(l []freed.Pair, next api.Page, size int) []byte {
	return layAsTold(len(l), next, l, size)
}

// getAsTold takes what might be told; that its page is b, laid again, tells that b is one.
func getAsTold(b []byte) ([]freed.Pair, api.Page, api.Errno) {
	if !isSize(len(b)) {
		return nil, 0, api.ErrForm
	}
	number := func(b []byte) uint64 {
		x := uint64(0)
		for _, c := range b {
			x = x*256 + uint64(c)
		}
		return x
	}
	n, next := int(number(b[2:4])), api.Page(number(b[4:8]))
	if n > roomAsTold(len(b)) {
		return nil, 0, api.ErrForm
	}
	var l []freed.Pair
	for i := range n {
		at := 8 + 12*i
		l = append(l, pair(number(b[at:at+8]), api.Page(number(b[at+8:at+12]))))
	}
	if !riseAsTold(l) || !bytes.Equal(pageAsTold(l, next, len(b)), b) {
		return nil, 0, api.ErrForm
	}
	return l, next, api.OK
}

// What the tests are made of.

func pair(txn uint64, page api.Page) freed.Pair { return freed.Pair{Txn: txn, Page: page} }

func pairs(l ...freed.Pair) []freed.Pair { return l }

func rec(txn uint64, pages ...api.Page) space.Record { return space.Record{Txn: txn, Pages: pages} }

func recs(l ...space.Record) []space.Record { return l }

// numbered are n pairs that rise: some of one change, then some of the next one.
func numbered(n int) []freed.Pair {
	var l []freed.Pair
	for i := range n {
		l = append(l, pair(uint64(1+i/5), api.Page(2+i)))
	}
	return l
}

// somePairs are n pairs that rise, by chance.
func somePairs(chance *rand.Rand, n int) []freed.Pair {
	var l []freed.Pair
	x := pair(chance.Uint64()>>(1+chance.IntN(60)), 0)
	for range n {
		if chance.IntN(3) == 0 {
			x = pair(x.Txn+1+chance.Uint64()>>(17+chance.IntN(40)), 0)
		}
		x.Page += 1 + api.Page(chance.Uint32()>>(14+chance.IntN(18)))
		l = append(l, x)
	}
	return l
}

func someBytes(chance *rand.Rand, n int) []byte {
	b := make([]byte, n)
	for i := range b {
		b[i] = byte(chance.Uint32())
	}
	return b
}

// someRecords are records that space takes, of pages below an end, by chance.
func someRecords(chance *rand.Rand, end api.Page) []space.Record {
	many := 1 + chance.IntN(6)
	l := make([]space.Record, many)
	txn := uint64(chance.IntN(2))
	for i := range l {
		l[i].Txn = txn
		txn += 1 + chance.Uint64()>>(10+chance.IntN(50))
	}
	for p := api.Page(2); p < end; p++ {
		if i := chance.IntN(many + 1); i < many {
			l[i].Pages = append(l[i].Pages, p)
		}
	}
	return slices.DeleteFunc(l, func(r space.Record) bool { return len(r.Pages) == 0 })
}

// wrong are sizes that no page has.
func wrong() []int {
	return []int{511, 4097, 0, 1, 7, 8, 9, 20, -1, -8, -512, 8192, 65536, 512 + 1<<32, math.MaxInt, math.MinInt}
}

func sameRecords(a, b []space.Record) bool {
	return slices.EqualFunc(a, b, func(x, y space.Record) bool {
		return x.Txn == y.Txn && slices.Equal(x.Pages, y.Pages)
	})
}

func sameRows(a, b [][]freed.Pair) bool {
	return slices.EqualFunc(a, b, func(x, y []freed.Pair) bool { return slices.Equal(x, y) })
}

func deep(l []space.Record) []space.Record {
	var c []space.Record
	for _, r := range l {
		c = append(c, rec(r.Txn, slices.Clone(r.Pages)...))
	}
	return c
}

func wantMany(t *testing.T, n, size, want int) {
	t.Helper()
	if got := freed.Many(n, size); got != want {
		t.Errorf("Many of %d, %d: got %d, want %d", n, size, got, want)
	}
}

func wantFlat(t *testing.T, l []space.Record, want ...freed.Pair) {
	t.Helper()
	before := deep(l)
	if got := freed.Flat(l); !slices.Equal(got, want) {
		t.Errorf("Flat of %v: got %v, want %v", l, got, want)
	}
	if !sameRecords(l, before) {
		t.Errorf("Flat of %v: what is handed in is changed", before)
	}
}

func wantGather(t *testing.T, l []freed.Pair, want ...space.Record) {
	t.Helper()
	before := slices.Clone(l)
	if got := freed.Gather(l); !sameRecords(got, want) {
		t.Errorf("Gather of %v: got %v, want %v", l, got, want)
	}
	if !slices.Equal(l, before) {
		t.Errorf("Gather of %v: what is handed in is changed", before)
	}
}

func wantSpread(t *testing.T, l []freed.Pair, pages, size int, want ...[]freed.Pair) {
	t.Helper()
	before := slices.Clone(l)
	got, e := freed.Spread(l, pages, size)
	if e != api.OK || !sameRows(got, want) {
		t.Errorf("Spread of %d pairs, %d, %d: error %d, got %v, want %v", len(l), pages, size, e, got, want)
	}
	if !slices.Equal(l, before) {
		t.Errorf("Spread of %d pairs: what is handed in is changed", len(l))
	}
}

func wantNotSpread(t *testing.T, l []freed.Pair, pages, size int, want api.Errno) {
	t.Helper()
	if got, e := freed.Spread(l, pages, size); e != want || got != nil {
		t.Errorf("Spread of %d pairs, %d, %d: error %d, want %d, and %d rows", len(l), pages, size, e, want, len(got))
	}
}

func wantGet(t *testing.T, what string, b []byte, l []freed.Pair, next api.Page, e api.Errno) {
	t.Helper()
	before := slices.Clone(b)
	gotPairs, gotNext, got := freed.Get(b)
	if got != e || gotNext != next || !slices.Equal(gotPairs, l) || e != api.OK && gotPairs != nil {
		t.Errorf("%s, of %d bytes: Get tells error %d, want %d, next %d, want %d, %v, want %v", what, len(b), got, e, gotNext, next, gotPairs, l)
	}
	if !bytes.Equal(b, before) {
		t.Errorf("%s: Get changes what is handed in", what)
	}
}

func wantNoPage(t *testing.T, what string, b []byte) {
	t.Helper()
	wantGet(t, what, b, nil, 0, api.ErrForm)
	if _, _, e := getAsTold(b); e != api.ErrForm {
		t.Errorf("%s: the test itself is wrong", what)
	}
}

// wantThere puts pairs and gets them again.
func wantThere(t *testing.T, what string, l []freed.Pair, next api.Page, size int) {
	t.Helper()
	want := pageAsTold(l, next, size)
	if b, e := freed.Put(l, next, size); e != api.OK || !bytes.Equal(b, want) {
		t.Errorf("%s, of size %d: Put tells error %d, %v, want %v", what, size, e, b, want)
	}
	wantGet(t, what, want, l, next, api.OK)
}

func wantRefused(t *testing.T, what string, l []freed.Pair, next api.Page, size int) {
	t.Helper()
	if b, e := freed.Put(l, next, size); e != api.ErrArg || b != nil {
		t.Errorf("%s, of size %d: Put tells error %d, and %d bytes", what, size, e, len(b))
	}
}

// P10.1

func TestP101Example(t *testing.T) {
	if roomAsTold(512) != 42 {
		t.Error("the test itself is wrong")
	}
	wantMany(t, 42, 512, 1)
	wantMany(t, 43, 512, 2)
	wantThere(t, "as many as the room", numbered(42), 0, 512)
	wantRefused(t, "one more", numbered(43), 0, 512)
	if rows, e := freed.Spread(numbered(43), 2, 512); e != api.OK || len(rows) != 2 || len(rows[0]) != 42 || len(rows[1]) != 1 {
		t.Errorf("Spread: error %d, %v", e, rows)
	}
}

func TestP101Many(t *testing.T) {
	for _, x := range []struct{ n, size, want int }{
		{-1, 512, 0}, {0, 512, 0}, {1, 512, 1}, {41, 512, 1}, {42, 512, 1}, {43, 512, 2}, {84, 512, 2}, {85, 512, 3},
		{42, 523, 1}, {43, 523, 2}, {43, 524, 1}, {44, 524, 2},
		{-1, 4096, 0}, {0, 4096, 0}, {1, 4096, 1}, {339, 4096, 1}, {340, 4096, 1}, {341, 4096, 2}, {680, 4096, 2}, {681, 4096, 3},
		{339, 4095, 1}, {340, 4095, 1}, {341, 4095, 2}, {340, 4088, 1}, {340, 4087, 2}, {339, 4087, 1},
		{65536, 512, 1561}, {65536, 4096, 193}, {1 << 31, 512, (1<<31 + 41) / 42},
		{math.MaxInt, 512, math.MaxInt/42 + 1}, {math.MaxInt, 4096, math.MaxInt/340 + 1},
		{math.MinInt, 512, 0}, {math.MinInt, 4096, 0}, {-43, 512, 0}, {-5000, 4096, 0},
		{1, 511, 0}, {1, 4097, 0}, {42, 511, 0}, {1000, 4097, 0}, {0, 511, 0}, {-1, 4097, 0},
	} {
		wantMany(t, x.n, x.size, x.want)
	}
}

func TestP101ManyOfEachSize(t *testing.T) {
	for size := 512; size <= 4096; size++ {
		room := roomAsTold(size)
		for k := range 5 {
			wantMany(t, k*room, size, k)
			wantMany(t, k*room+1, size, k+1)
			wantMany(t, k*room+room-1, size, k+1)
		}
		for _, n := range []int{-1, -room, -room - 1, -size, math.MinInt} {
			wantMany(t, n, size, 0)
		}
	}
	for _, size := range wrong() {
		for _, n := range []int{-1, 0, 1, 42, 43, 5000, math.MaxInt, math.MinInt} {
			wantMany(t, n, size, 0)
		}
	}
}

func TestP101Flat(t *testing.T) {
	wantFlat(t, nil)
	wantFlat(t, recs())
	wantFlat(t, recs(rec(3, 5)), pair(3, 5))
	wantFlat(t, recs(rec(0, 2, 3, 9)), pair(0, 2), pair(0, 3), pair(0, 9))
	wantFlat(t, recs(rec(3, 5, 8), rec(7, 6), rec(9, 2, 3)), pair(3, 5), pair(3, 8), pair(7, 6), pair(9, 2), pair(9, 3))
	wantFlat(t, recs(rec(3)))
	wantFlat(t, recs(rec(3), rec(4)))
	wantFlat(t, recs(rec(3, 5), rec(4), rec(7, 6)), pair(3, 5), pair(7, 6))
	wantFlat(t, recs(rec(3), rec(4, 5)), pair(4, 5))
	wantFlat(t, recs(rec(4, 5), rec(5)), pair(4, 5))
	wantFlat(t, recs(space.Record{Txn: 4, Pages: []api.Page{}}, rec(txnMost, 0, pageMost)), pair(txnMost, 0), pair(txnMost, pageMost))
}

// In order, though they don't rise, and are twice.
func TestP101FlatOfAnyOrder(t *testing.T) {
	wantFlat(t, recs(rec(9, 7, 2), rec(3, 7, 7), rec(9, 1, 0)), pair(9, 7), pair(9, 2), pair(3, 7), pair(3, 7), pair(9, 1), pair(9, 0))
}

func TestP101FlatIsNewMemory(t *testing.T) {
	l := recs(rec(3, 5, 8), rec(7, 6))
	want := pairs(pair(3, 5), pair(3, 8), pair(7, 6))
	first, second := freed.Flat(l), freed.Flat(l)
	clear(first)
	_ = append(first, pair(99, 99))
	if !slices.Equal(second, want) || !sameRecords(l, recs(rec(3, 5, 8), rec(7, 6))) {
		t.Error("pairs share memory with others, or with records")
	}
	clear(l[0].Pages)
	clear(l)
	if !slices.Equal(second, want) {
		t.Error("pairs change with the records that were handed in")
	}
}

func TestP101Gather(t *testing.T) {
	wantGather(t, nil)
	wantGather(t, pairs())
	wantGather(t, pairs(pair(3, 5)), rec(3, 5))
	wantGather(t, pairs(pair(0, 0)), rec(0, 0))
	wantGather(t, pairs(pair(3, 5), pair(3, 8), pair(3, 9)), rec(3, 5, 8, 9))
	wantGather(t, pairs(pair(3, 5), pair(4, 8), pair(5, 9)), rec(3, 5), rec(4, 8), rec(5, 9))
	wantGather(t, pairs(pair(0, 4), pair(0, 5), pair(7, 2), pair(9, 3), pair(9, 6)), rec(0, 4, 5), rec(7, 2), rec(9, 3, 6))
	wantGather(t, pairs(pair(txnMost-1, pageMost), pair(txnMost, 0), pair(txnMost, pageMost)), rec(txnMost-1, pageMost), rec(txnMost, 0, pageMost))
}

// Those of one change that stand behind another one's are a record of their own.
func TestP101GatherOnEndOnly(t *testing.T) {
	wantGather(t, pairs(pair(3, 5), pair(7, 6), pair(3, 8)), rec(3, 5), rec(7, 6), rec(3, 8))
	wantGather(t, pairs(pair(3, 5), pair(3, 6), pair(7, 6), pair(3, 8), pair(3, 9)), rec(3, 5, 6), rec(7, 6), rec(3, 8, 9))
	wantGather(t, pairs(pair(7, 5), pair(3, 6), pair(7, 5), pair(7, 2)), rec(7, 5), rec(3, 6), rec(7, 5, 2))
	wantGather(t, pairs(pair(3, 9), pair(3, 5), pair(3, 5), pair(3, 0)), rec(3, 9, 5, 5, 0))
}

// All rows of up to six pairs, of three changes, that stand in any order.
func TestP101GatherOfAllShortRows(t *testing.T) {
	var each func(l []freed.Pair)
	each = func(l []freed.Pair) {
		wantGather(t, l, gatherAsTold(l)...)
		if len(l) == 6 {
			return
		}
		for txn := range uint64(3) {
			each(append(slices.Clone(l), pair(txn, api.Page(len(l)))))
		}
	}
	each(nil)
}

func TestP101GatherIsNewMemory(t *testing.T) {
	of := func() []freed.Pair {
		return pairs(pair(3, 5), pair(3, 8), pair(3, 9), pair(7, 6), pair(9, 2), pair(9, 3))
	}
	want := recs(rec(3, 5, 8, 9), rec(7, 6), rec(9, 2, 3))
	l := of()
	first, second := freed.Gather(l), freed.Gather(l)
	clear(l)
	if !sameRecords(first, want) {
		t.Error("records change with the pairs that were handed in")
	}
	copy(l, of())
	for i := range first {
		for k := 1; k < 10; k++ {
			_ = append(first[i].Pages, slices.Repeat([]api.Page{99}, k)...)
		}
	}
	_ = append(first[:1], rec(99, 99))
	first = freed.Gather(l)
	for i := range first {
		_ = append(first[i].Pages, 99, 99, 99)
		if !sameRecords(first[i:], want[i:]) {
			t.Error("records share bytes behind their ends")
		}
		clear(first[i].Pages)
		if !sameRecords(first[i+1:], want[i+1:]) {
			t.Error("records change with the one ahead")
		}
	}
	if !slices.Equal(l, of()) || !sameRecords(second, want) {
		t.Error("what was handed in, or gathered twice, changes with records")
	}
}

// P10.2

func TestP102Spread(t *testing.T) {
	l := numbered(100)
	wantSpread(t, l[:1], 1, 512, l[:1])
	wantSpread(t, l[:41], 1, 512, l[:41])
	wantSpread(t, l[:42], 1, 512, l[:42])
	wantSpread(t, l[:43], 2, 512, l[:42], l[42:43])
	wantSpread(t, l[:84], 2, 512, l[:42], l[42:84])
	wantSpread(t, l[:85], 3, 512, l[:42], l[42:84], l[84:85])
	wantSpread(t, l[:43], 2, 523, l[:42], l[42:43])
	wantSpread(t, l[:43], 1, 524, l[:43])
	wantSpread(t, l, 1, 4096, l)
}

// Of more pages than need be the last ones have no pairs.
func TestP102SpreadOfMorePages(t *testing.T) {
	l := numbered(100)
	wantSpread(t, l[:1], 3, 512, l[:1], nil, nil)
	wantSpread(t, l[:42], 2, 512, l[:42], nil)
	wantSpread(t, l[:43], 4, 512, l[:42], l[42:43], nil, nil)
	wantSpread(t, nil, 1, 512, nil)
	wantSpread(t, nil, 3, 4096, nil, nil, nil)
	wantSpread(t, pairs(), 2, 512, nil, nil)
}

func TestP102SpreadOfNone(t *testing.T) {
	for _, size := range []int{512, 513, 4095, 4096} {
		wantSpread(t, nil, 0, size)
		wantSpread(t, pairs(), 0, size)
	}
}

func TestP102SpreadOfFewerPages(t *testing.T) {
	l := numbered(1000)
	for _, x := range []struct{ n, pages, size int }{
		{1, 0, 512}, {42, 0, 512}, {43, 1, 512}, {43, 0, 512}, {84, 1, 512}, {85, 2, 512}, {1000, 23, 512},
		{1, 0, 4096}, {340, 0, 4096}, {341, 1, 4096}, {341, 1, 4095}, {340, 1, 4087}, {43, 1, 523}, {681, 2, 4096},
	} {
		wantNotSpread(t, l[:x.n], x.pages, x.size, api.ErrFull)
		enough := (x.n + roomAsTold(x.size) - 1) / roomAsTold(x.size)
		wantSpread(t, l[:x.n], enough, x.size, spreadAsTold(l[:x.n], enough, x.size)...)
	}
}

func TestP102SpreadSizes(t *testing.T) {
	l := numbered(1000)
	for size := 512; size <= 4096; size++ {
		room := roomAsTold(size)
		for _, n := range []int{0, 1, room - 1, room, room + 1, 2 * room, 2*room + 1} {
			pages := freed.Many(n, size)
			wantSpread(t, l[:n], pages, size, spreadAsTold(l[:n], pages, size)...)
			if n > 0 {
				wantNotSpread(t, l[:n], pages-1, size, api.ErrFull)
			}
		}
		wantSpread(t, l[:room], 3, size, l[:room], nil, nil)
	}
	for _, size := range wrong() {
		for _, n := range []int{0, 1, 43, 1000} {
			for _, pages := range []int{0, 1, 2, 1000, 65536, 65537, -1} {
				wantNotSpread(t, l[:n], pages, size, api.ErrArg)
			}
		}
	}
}

func TestP102SpreadPages(t *testing.T) {
	l := numbered(43)
	for _, pages := range []int{-1, -2, -65536, 65537, 65538, 131072, 1 << 32, math.MaxInt, math.MinInt} {
		for _, size := range []int{512, 4096} {
			wantNotSpread(t, nil, pages, size, api.ErrArg)
			wantNotSpread(t, l, pages, size, api.ErrArg)
		}
	}
	for _, pages := range []int{65535, 65536} {
		wantSpread(t, l, pages, 512, spreadAsTold(l, pages, 512)...)
		wantSpread(t, nil, pages, 4096, make([][]freed.Pair, pages)...)
	}
	// Of one that may not be ErrArg is told, though there are fewer than needed.
	wantNotSpread(t, l, -1, 512, api.ErrArg)
	most := numbered(65536*42 + 1)
	wantNotSpread(t, most, 65536, 512, api.ErrFull)
	wantNotSpread(t, most, 65537, 512, api.ErrArg)
	if rows, e := freed.Spread(most[1:], 65536, 512); e != api.OK || len(rows) != 65536 || len(rows[65535]) != 42 {
		t.Errorf("Spread of the most pairs: error %d, %d rows", e, len(rows))
	}
}

// Pairs are spread as they stand, though they don't rise.
func TestP102SpreadOfAnyOrder(t *testing.T) {
	l := numbered(60)
	slices.Reverse(l)
	l[3] = l[4]
	wantSpread(t, l, 2, 512, l[:42], l[42:])
}

func TestP102SpreadIsNewMemory(t *testing.T) {
	for _, n := range []int{1, 42, 43, 84, 100} {
		l := numbered(n)
		want := spreadAsTold(numbered(n), 4, 512)
		first, _ := freed.Spread(l, 4, 512)
		second, _ := freed.Spread(l, 4, 512)
		for i := range first {
			_ = append(first[i], slices.Repeat(pairs(pair(99, 99)), 50)...)
			_ = append(first[i], pair(99, 99))
		}
		if !sameRows(first, want) || !slices.Equal(l, numbered(n)) {
			t.Errorf("of %d pairs: rows share memory behind their ends", n)
		}
		clear(l)
		if !sameRows(first, want) {
			t.Errorf("of %d pairs: rows change with what was handed in", n)
		}
		copy(l, numbered(n))
		for i := range first {
			clear(first[i])
			if !sameRows(first[i+1:], want[i+1:]) {
				t.Errorf("of %d pairs: rows change with the one ahead", n)
			}
		}
		clear(first)
		if !slices.Equal(l, numbered(n)) || !sameRows(second, want) {
			t.Errorf("of %d pairs: what was handed in, or spread twice, changes with rows", n)
		}
	}
}

// What was handed in may be a piece of more, which stays as it is.
func TestP102SpreadOfAPiece(t *testing.T) {
	whole := numbered(200)
	wantSpread(t, whole[50:100], 3, 512, whole[50:92], whole[92:100], nil)
	rows, _ := freed.Spread(whole[50:100], 3, 512)
	for i := range rows {
		_ = append(rows[i], pair(99, 99))
	}
	if !slices.Equal(whole, numbered(200)) {
		t.Error("what is handed in is changed")
	}
}

// P10.3

func TestP103PutBytes(t *testing.T) {
	b := make([]byte, 512)
	copy(b, []byte{4, 0, 0, 2, 1, 2, 3, 4, 0, 0, 0, 0, 0, 0, 0, 3, 0, 0, 1, 2, 8, 7, 6, 5, 4, 3, 2, 1, 9, 0, 0, 9})
	l := pairs(pair(3, 258), pair(0x0807060504030201, 0x09000009))
	got, e := freed.Put(l, 0x01020304, 512)
	if e != api.OK || !bytes.Equal(got, b) {
		t.Errorf("Put: error %d, %v", e, got)
	}
	wantGet(t, "a page", b, l, 0x01020304, api.OK)
	none := make([]byte, 512)
	none[0] = 4
	got, e = freed.Put(nil, 0, 512)
	if e != api.OK || !bytes.Equal(got, none) {
		t.Errorf("Put of no pairs: error %d, %v", e, got)
	}
	wantGet(t, "a page of no pairs", none, nil, 0, api.OK)
}

func TestP103Room(t *testing.T) {
	l := numbered(400)
	for size := 512; size <= 4096; size++ {
		room := roomAsTold(size)
		for _, n := range []int{0, 1, 2, room - 1, room} {
			wantThere(t, "pairs", l[:n], 7, size)
		}
		for _, n := range []int{room + 1, room + 2, 400} {
			wantRefused(t, "more than the room", l[:n], 7, size)
		}
	}
	for n := range 341 {
		wantThere(t, "each number of pairs", l[:n], 9, 4096)
	}
	wantRefused(t, "65536 pairs", numbered(65536), 7, 4096)
	wantRefused(t, "65537 pairs", numbered(65537), 7, 4096)
}

func TestP103Sizes(t *testing.T) {
	for _, size := range wrong() {
		wantRefused(t, "a pair, of a wrong size", numbered(1), 7, size)
		wantRefused(t, "no pairs, of a wrong size", nil, 0, size)
		wantRefused(t, "more pairs, of a wrong size", numbered(43), 7, size)
		wantRefused(t, "pairs that don't rise, of a wrong size", pairs(pair(2, 2), pair(1, 1)), 7, size)
	}
	for _, size := range []int{512, 513, 4095, 4096} {
		wantThere(t, "a pair", numbered(1), 7, size)
		wantThere(t, "no pairs", nil, 0, size)
	}
}

// All rows of three pairs, of the numbers at their edges.
func TestP103Rise(t *testing.T) {
	var all []freed.Pair
	for _, txn := range []uint64{0, 1, 7, 1 << 32, 1<<63 - 1, 1 << 63, txnMost} {
		for _, page := range []api.Page{0, 2, 1<<31 - 1, 1 << 31, pageMost} {
			all = append(all, pair(txn, page))
		}
	}
	there, refused := 0, 0
	for _, a := range all {
		wantThere(t, "one pair", pairs(a), 7, 512)
		for _, b := range all {
			for _, c := range all {
				l := pairs(a, b, c)
				if riseAsTold(l) {
					wantThere(t, "pairs that rise", l, 7, 512)
					there++
					continue
				}
				wantRefused(t, "pairs that don't rise", l, 7, 512)
				wantNoPage(t, "pairs that don't rise", pageAsTold(l, 7, 512))
				refused++
			}
		}
	}
	if want := 35 * 34 * 33 / 6; there != want || refused != 35*35*35-want {
		t.Errorf("%d rise, and %d don't", there, refused)
	}
}

func TestP103PairsThatDontRise(t *testing.T) {
	for _, x := range []struct {
		what string
		l    []freed.Pair
	}{
		{"the same pair twice", pairs(pair(3, 5), pair(3, 5))},
		{"a Page that falls within one Txn", pairs(pair(3, 5), pair(3, 4))},
		{"a Txn that falls", pairs(pair(4, 5), pair(3, 6))},
		{"a Txn that falls, and a Page too", pairs(pair(4, 5), pair(3, 4))},
		{"a Txn that falls, of one Page", pairs(pair(4, 5), pair(3, 5))},
		{"the first ones", pairs(pair(3, 5), pair(3, 5), pair(4, 6))},
		{"the last ones", pairs(pair(2, 5), pair(3, 5), pair(3, 5))},
		{"one ahead of others comes again", pairs(pair(3, 5), pair(3, 6), pair(3, 5))},
		{"a change comes again", pairs(pair(3, 5), pair(4, 6), pair(3, 7))},
	} {
		wantRefused(t, x.what, x.l, 7, 512)
		wantNoPage(t, x.what, pageAsTold(x.l, 7, 512))
	}
	wantThere(t, "a Txn that rises, with a Page that falls", pairs(pair(3, 5), pair(4, 2)), 7, 512)
	wantThere(t, "a Txn that rises, of one Page", pairs(pair(3, 5), pair(4, 5)), 7, 512)
	// At each place of a full page.
	for i := 1; i < 42; i++ {
		l := numbered(42)
		l[i] = l[i-1]
		wantRefused(t, "a pair twice", l, 7, 512)
		wantNoPage(t, "a pair twice", pageAsTold(l, 7, 512))
	}
}

func TestP103Next(t *testing.T) {
	for bit := range 32 {
		for _, next := range []api.Page{1<<bit - 1, 1 << bit, 1<<bit + 1} {
			wantThere(t, "a next page", numbered(3), next, 512)
		}
	}
	for _, next := range []api.Page{0, 1, 2, pageMost} {
		wantThere(t, "no pairs", nil, next, 512)
		wantThere(t, "as many as the room", numbered(340), next, 4096)
	}
}

func TestP103GetSizes(t *testing.T) {
	for _, size := range []int{8, 9, 20, 100, 128, 384, 511, 4097, 4224, 8192, 70000} {
		wantNoPage(t, "a page of no pairs, of another size", pageAsTold(nil, 7, size))
		wantNoPage(t, "a page of another size", pageAsTold(numbered(min(roomAsTold(size), 1)), 7, size))
		wantNoPage(t, "a full page of another size", pageAsTold(numbered(roomAsTold(size)), 7, size))
	}
	b := pageAsTold(numbered(30), 7, 640)
	wantGet(t, "a page", b, numbered(30), 7, api.OK)
	wantGet(t, "a page of fewer noughts", b[:512], numbered(30), 7, api.OK)
	wantNoPage(t, "a byte less than the fewest", b[:511])
	wantNoPage(t, "a byte less, ahead", b[1:])
	wantNoPage(t, "half of it", b[:320])
	for n := range 120 {
		wantNoPage(t, "few bytes", b[:n])
	}
	wantNoPage(t, "nil", nil)
	wantNoPage(t, "no bytes", []byte{})
	full := pageAsTold(numbered(43), 7, 524)
	wantNoPage(t, "a full page, a byte less", full[:523])
	wantGet(t, "a full page, and a nought", append(slices.Clone(full), 0), numbered(43), 7, api.OK)
	wantNoPage(t, "a full page, and another byte", append(slices.Clone(full), 1))
	most := pageAsTold(numbered(340), 7, 4096)
	wantGet(t, "the greatest page", most, numbered(340), 7, api.OK)
	wantNoPage(t, "the greatest page, and a nought", append(most, 0))
}

func TestP103GetNoPage(t *testing.T) {
	l := numbered(20)
	set := func(at int, with ...byte) []byte {
		b := pageAsTold(l, 7, 512)
		copy(b[at:], with)
		return b
	}
	wantGet(t, "a page", set(0), l, 7, api.OK)
	for _, x := range []struct {
		what string
		b    []byte
	}{
		{"noughts alone", make([]byte, 512)},
		{"a byte 0", set(0, 0)},
		{"a leaf's byte", set(0, 1)},
		{"a branch's byte", set(0, 2)},
		{"a chain's byte", set(0, 3)},
		{"a byte 5", set(0, 5)},
		{"a byte 132", set(0, 132)},
		{"a byte 1 behind it", set(1, 1)},
		{"a byte 255 behind it", set(1, 255)},
		{"a number of pairs of 0", set(2, 0, 0)},
		{"one less", set(2, 0, 19)},
		{"one more", set(2, 0, 21)},
		{"as many as the room", set(2, 0, 42)},
		{"more than the room", set(2, 0, 43)},
		{"the greatest number", set(2, 255, 255)},
		{"the number's bytes the other way round", set(2, 20, 0)},
		{"a byte behind the pairs", set(248, 1)},
		{"a byte in the midst of the noughts", set(400, 128)},
		{"the last byte", set(511, 255)},
		{"one more than the room, of a full page", layAsTold(43, 7, numbered(42), 512)},
		{"one more than the room, that would be cut", layAsTold(43, 7, numbered(43), 523)},
		{"one less than the room, of a full page", layAsTold(41, 7, numbered(42), 512)},
		{"one more than the room, of the greatest page", layAsTold(341, 7, numbered(341), 4096)},
		{"65535, of the greatest page", layAsTold(65535, 7, numbered(340), 4096)},
		{"two of noughts alone", layAsTold(2, 0, nil, 512)},
	} {
		wantNoPage(t, x.what, x.b)
	}
	wantGet(t, "one of noughts alone", layAsTold(1, 0, nil, 512), pairs(pair(0, 0)), 0, api.OK)
	// Behind as many as the room there may be bytes that are too few for a pair.
	for at := 512; at < 523; at++ {
		b := pageAsTold(numbered(42), 7, 523)
		b[at] = 1
		wantNoPage(t, "a byte behind as many pairs as the room", b)
	}
}

// Each byte of some pages is changed to each other one.
func TestP103GetAllButOneByte(t *testing.T) {
	for _, l := range [][]freed.Pair{nil, numbered(1), numbered(20), numbered(42), pairs(pair(0, 0)), pairs(pair(1, 5), pair(1, 6), pair(2, 3))} {
		page := pageAsTold(l, 0x01020304, 512)
		wantGet(t, "the page", page, l, 0x01020304, api.OK)
		for i := range page {
			for c := range 256 {
				b := slices.Clone(page)
				b[i] = byte(c)
				wantPairs, wantNext, e := getAsTold(b)
				wantGet(t, "all but one byte", b, wantPairs, wantNext, e)
				if isFree := i >= 8+12*len(l); isFree && (e == api.OK) != (c == 0) {
					t.Error("the test itself is wrong")
				}
			}
			if t.Failed() {
				t.Fatalf("byte %d of %d pairs", i, len(l))
			}
		}
	}
}

// Other kinds' pages are none of these, and these none of theirs.
func TestP103GetOtherKinds(t *testing.T) {
	b, e := leaf.Put([]leaf.Entry{{Key: []byte("a"), Long: 700, First: 2}}, 512)
	if e != api.OK {
		t.Fatal(e)
	}
	wantNoPage(t, "a leaf's page", b)
	b, e = branch.Put([]branch.Entry{{Child: 2}, {Key: []byte("a"), Child: 3}}, 512)
	if e != api.OK {
		t.Fatal(e)
	}
	wantNoPage(t, "a branch's page", b)
	b, e = chain.Put([]byte{1}, 7, 512)
	if e != api.OK {
		t.Fatal(e)
	}
	wantNoPage(t, "a chain's page", b)
	b, _ = freed.Put(numbered(42), 7, 512)
	if _, e := leaf.Get(b); e != api.ErrForm {
		t.Errorf("a leaf's Get: error %d", e)
	}
	if _, e := branch.Get(b); e != api.ErrForm {
		t.Errorf("a branch's Get: error %d", e)
	}
	if _, _, e := chain.Get(b); e != api.ErrForm {
		t.Errorf("a chain's Get: error %d", e)
	}
}

// Bytes by chance, and pages of which some bytes are others.
func TestP103GetAnyBytes(t *testing.T) {
	chance := rand.New(rand.NewPCG(10, 3))
	pages := 0
	for i := range 20000 {
		size := 512 + chance.IntN(3585)
		n := chance.IntN(1 + roomAsTold(size))
		if chance.IntN(3) == 0 {
			n = roomAsTold(size) - chance.IntN(2)
		}
		b := pageAsTold(somePairs(chance, n), api.Page(chance.Uint32()), size)
		for range chance.IntN(3) {
			k := chance.IntN(len(b))
			if chance.IntN(3) == 0 {
				k = chance.IntN(8)
			}
			b[k] += byte(chance.IntN(5) - 2)
		}
		if i%10 == 0 {
			b = append([]byte{4, 0}, someBytes(chance, size)...)
		}
		l, next, e := getAsTold(b)
		wantGet(t, "any bytes", b, l, next, e)
		if e == api.OK {
			pages++
		}
		if t.Failed() {
			return
		}
	}
	if pages < 5000 || pages > 19000 {
		t.Errorf("%d of them are pages", pages)
	}
}

func TestP103PutKeepsNothing(t *testing.T) {
	for _, n := range []int{1, 20, 42} {
		l := numbered(n)
		want := pageAsTold(l, 7, 512)
		b, _ := freed.Put(l, 7, 512)
		other, _ := freed.Put(l, 7, 512)
		if !slices.Equal(l, numbered(n)) {
			t.Error("what is handed in is changed")
		}
		clear(l)
		if !bytes.Equal(b, want) {
			t.Error("a page changes with the pairs that were handed in")
		}
		copy(l, numbered(n))
		clear(b)
		_ = append(b, 9)
		if !bytes.Equal(other, want) || !slices.Equal(l, numbered(n)) {
			t.Error("a page shares memory with another one, or with the pairs")
		}
	}
	l := pairs(pair(4, 5), pair(3, 6), pair(3, 6))
	wantRefused(t, "pairs that don't rise", l, 7, 512)
	if !slices.Equal(l, pairs(pair(4, 5), pair(3, 6), pair(3, 6))) {
		t.Error("what is refused is changed")
	}
}

func TestP103GetIsNewMemory(t *testing.T) {
	for _, n := range []int{1, 20, 42} {
		page := pageAsTold(numbered(n), 7, 512)
		b := slices.Clone(page)
		first, _, _ := freed.Get(b)
		second, _, _ := freed.Get(b)
		clear(b)
		if !slices.Equal(first, numbered(n)) {
			t.Error("pairs change with their page")
		}
		copy(b, page)
		_ = append(first, slices.Repeat(pairs(pair(99, 99)), 50)...)
		clear(first)
		if !bytes.Equal(b, page) || !slices.Equal(second, numbered(n)) {
			t.Error("pairs share memory with their page, or with others")
		}
	}
}

// P10.4

// wantKept takes records to pages, each with the next one's number, and back.
func wantKept(t *testing.T, l []space.Record, more, size int) {
	t.Helper()
	flat := freed.Flat(l)
	if got := freed.Gather(flat); !sameRecords(got, l) {
		t.Fatalf("Gather of Flat of %v: %v", l, got)
	}
	pages := freed.Many(len(flat), size) + more
	rows, e := freed.Spread(flat, pages, size)
	if e != api.OK || len(rows) != pages {
		t.Fatalf("Spread of %d pairs, %d, %d: error %d, %d rows", len(flat), pages, size, e, len(rows))
	}
	var back []freed.Pair
	for i, row := range rows {
		next := api.Page((i + 3) % (pages + 2))
		b, e := freed.Put(row, next, size)
		if e != api.OK || len(b) != size {
			t.Fatalf("Put of row %d of %d pairs: error %d, %d bytes", i, len(row), e, len(b))
		}
		got, gotNext, e := freed.Get(b)
		if e != api.OK || gotNext != next || !slices.Equal(got, row) {
			t.Fatalf("Get of row %d: error %d, next %d, want %d, %v, want %v", i, e, gotNext, next, got, row)
		}
		again, e := freed.Put(got, gotNext, size)
		if e != api.OK || !bytes.Equal(again, b) {
			t.Fatalf("Put of what was got: error %d", e)
		}
		back = append(back, got...)
	}
	if got := freed.Gather(back); !sameRecords(got, l) {
		t.Fatalf("records that were put: %v, want %v", got, l)
	}
}

func TestP104RecordsAreKept(t *testing.T) {
	chance := rand.New(rand.NewPCG(10, 4))
	wantKept(t, nil, 0, 512)
	wantKept(t, nil, 2, 4096)
	for _, size := range []int{512, 513, 640, 4095, 4096} {
		wantKept(t, recs(rec(0, 2)), 0, size)
		wantKept(t, recs(rec(1, 2, 3), rec(txnMost, 4)), 1, size)
		for range 200 {
			end := api.Page(3 + chance.IntN(1500))
			l := someRecords(chance, end)
			if !space.Right(l, end) {
				t.Fatal("the test itself is wrong")
			}
			wantKept(t, l, chance.IntN(3), size)
		}
	}
	wantKept(t, someRecords(chance, 65536), 0, 512)
	wantKept(t, someRecords(chance, 65536), 1, 4096)
}

// What a space tells behind change upon change is kept, and the next one's space is made of it.
func TestP104RecordsOfChanges(t *testing.T) {
	chance := rand.New(rand.NewPCG(10, 5))
	var l []space.Record
	var held []api.Page // by those that stand in use
	end := api.Page(2)
	for txn := uint64(1); txn < 400; txn++ {
		s, e := space.New(end, 65536, l, txn-min(txn, uint64(chance.IntN(6))))
		if e != api.OK {
			t.Fatalf("a space of change %d: error %d", txn, e)
		}
		for range chance.IntN(8) {
			p, e := s.Take()
			if e != api.OK {
				t.Fatal(e)
			}
			held = append(held, p)
		}
		for range chance.IntN(8) {
			if len(held) == 0 {
				break
			}
			i := chance.IntN(len(held))
			if e := s.Give(held[i]); e != api.OK {
				t.Fatalf("Give of page %d: error %d", held[i], e)
			}
			held = slices.Delete(held, i, i+1)
		}
		l, end = s.Records(txn), s.End()
		wantKept(t, l, int(txn%2), 512)
		l = freed.Gather(freed.Flat(l))
		if !space.Right(l, end) {
			t.Fatalf("behind change %d records aren't right: %v", txn, l)
		}
	}
}

func TestP104WhatIsPutIsGot(t *testing.T) {
	chance := rand.New(rand.NewPCG(10, 6))
	for range 3000 {
		size := 512 + chance.IntN(3585)
		l := somePairs(chance, chance.IntN(1+roomAsTold(size)))
		next := api.Page(chance.Uint32() >> chance.IntN(32))
		b, e := freed.Put(l, next, size)
		if e != api.OK || len(b) != size {
			t.Fatalf("Put of %d pairs, size %d: error %d, %d bytes", len(l), size, e, len(b))
		}
		got, gotNext, e := freed.Get(b)
		if e != api.OK || gotNext != next || !slices.Equal(got, l) {
			t.Fatalf("Get of what was put: error %d, next %d, want %d, %v, want %v", e, gotNext, next, got, l)
		}
		again, e := freed.Put(got, gotNext, size)
		if e != api.OK || !bytes.Equal(again, b) {
			t.Fatalf("Put of what was got: error %d", e)
		}
	}
}
