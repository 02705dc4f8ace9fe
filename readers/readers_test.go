package readers_test

import (
	"math"
	"math/rand/v2"
	"slices"
	"strconv"
	"testing"

	"rubricator/api"
	"rubricator/readers"
)

const txnMost = math.MaxUint64

// The words of the chapter, told again: who stands in each slot.

type told struct {
	stands, dead bool
	turn, reads  uint64
}

type asTold []told

func (m asTold) begin(txn uint64) (readers.Handle, api.Errno) {
	for i := 0; i < len(m); i++ {
		if !m[i].stands {
			m[i] = told{stands: true, turn: m[i].turn + 1, reads: txn}
			return at(i, m[i].turn), api.OK
		}
	}
	return at(0, 0), api.ErrReaders
}

func (m asTold) good(h readers.Handle) bool {
	return h.Slot >= 0 && h.Slot < len(m) && m[h.Slot].stands && m[h.Slot].turn == h.Turn
}

func (m asTold) txn(h readers.Handle) (uint64, api.Errno) {
	if !m.good(h) {
		return 0, api.ErrReader
	}
	return m[h.Slot].reads, api.OK
}

func (m asTold) end(h readers.Handle) api.Errno {
	if !m.good(h) {
		return api.ErrReader
	}
	m.leave(h.Slot)
	return api.OK
}

// leave lets nobody stand in a slot; its turn stays.
func (m asTold) leave(slot int) { m[slot] = told{turn: m[slot].turn} }

func (m asTold) die(slot int) bool {
	if slot < 0 || slot >= len(m) || !m[slot].stands {
		return false
	}
	m[slot].dead = true
	return true
}

func (m asTold) clear() int {
	n := 0
	for i, x := range m {
		if x.dead {
			m.leave(i)
			n++
		}
	}
	return n
}

// read is what all readers read.
func (m asTold) read() []uint64 {
	var l []uint64
	for _, x := range m {
		if x.stands {
			l = append(l, x.reads)
		}
	}
	return l
}

func (m asTold) oldest(txn uint64) uint64 { return slices.Min(append(m.read(), txn)) }

// What the tests are made of.

func at(slot int, turn uint64) readers.Handle { return readers.Handle{Slot: slot, Turn: turn} }

// show is a handle, short.
func show(h readers.Handle) string {
	return strconv.Itoa(h.Slot) + "/" + strconv.FormatUint(h.Turn, 10)
}

func made(t *testing.T, many int) *readers.Table {
	t.Helper()
	x, e := readers.New(many)
	if e != api.OK || x == nil {
		t.Fatalf("New of %d: error %d", many, e)
	}
	return x
}

// reading is a table of so many slots with readers of these, from slot 0 on.
func reading(t *testing.T, many int, txns ...uint64) *readers.Table {
	t.Helper()
	x := made(t, many)
	for i, txn := range txns {
		wantBegin(t, "ahead", x, txn, at(i, 1))
	}
	return x
}

func wantBegin(t *testing.T, what string, x *readers.Table, txn uint64, want readers.Handle) {
	t.Helper()
	if h, e := x.Begin(txn); h != want || e != api.OK {
		t.Errorf("%s: Begin of %d is %s, error %d; want %s", what, txn, show(h), e, show(want))
	}
}

func wantNoBegin(t *testing.T, what string, x *readers.Table, want api.Errno) {
	t.Helper()
	if h, e := x.Begin(5); h != at(0, 0) || e != want {
		t.Errorf("%s: Begin is %s, error %d; want error %d", what, show(h), e, want)
	}
}

func wantTxn(t *testing.T, what string, x *readers.Table, h readers.Handle, want uint64) {
	t.Helper()
	if txn, e := x.Txn(h); txn != want || e != api.OK {
		t.Errorf("%s: Txn of %s is %d, error %d; want %d", what, show(h), txn, e, want)
	}
}

func wantEnd(t *testing.T, what string, x *readers.Table, h readers.Handle) {
	t.Helper()
	if e := x.End(h); e != api.OK {
		t.Errorf("%s: End of %s tells error %d", what, show(h), e)
	}
}

// wantBad holds that handles aren't good, and that to end them changes nothing.
func wantBad(t *testing.T, what string, x *readers.Table, l ...readers.Handle) {
	t.Helper()
	was := x.Live()
	for _, h := range l {
		if txn, e := x.Txn(h); txn != 0 || e != api.ErrReader {
			t.Errorf("%s: Txn of %s is %d, error %d", what, show(h), txn, e)
		}
		if e := x.End(h); e != api.ErrReader {
			t.Errorf("%s: End of %s tells error %d", what, show(h), e)
		}
	}
	wantLive(t, what+", ended in vain", x, was)
}

func wantDead(t *testing.T, what string, x *readers.Table, slot int, want bool) {
	t.Helper()
	if got := x.Dead(slot); got != want {
		t.Errorf("%s: Dead of %d is %t", what, slot, got)
	}
}

func wantClear(t *testing.T, what string, x *readers.Table, want int) {
	t.Helper()
	if got := x.Clear(); got != want {
		t.Errorf("%s: Clear is %d, want %d", what, got, want)
	}
}

func wantOldest(t *testing.T, what string, x *readers.Table, txn, want uint64) {
	t.Helper()
	if got := x.Oldest(txn); got != want {
		t.Errorf("%s: Oldest of %d is %d, want %d", what, txn, got, want)
	}
}

func wantLive(t *testing.T, what string, x *readers.Table, want int) {
	t.Helper()
	if got := x.Live(); got != want {
		t.Errorf("%s: Live is %d, want %d", what, got, want)
	}
}

// wantAsTold holds all that a table tells against the words; of handles those of all slots, and two outside, whose turns are below some.
func wantAsTold(t *testing.T, what string, x *readers.Table, m asTold, turns uint64) {
	t.Helper()
	for slot := -1; slot <= len(m); slot++ {
		for turn := range turns {
			h := at(slot, turn)
			want, wantErr := m.txn(h)
			if txn, e := x.Txn(h); txn != want || e != wantErr {
				t.Errorf("%s: Txn of %s is %d, error %d; want %d, error %d", what, show(h), txn, e, want, wantErr)
			}
		}
	}
	wantLive(t, what, x, len(m.read()))
	for _, txn := range append(m.read(), 0, 4, txnMost) {
		wantOldest(t, what, x, txn, m.oldest(txn))
	}
}

// P9.1

func TestP91New(t *testing.T) {
	for _, many := range []int{math.MinInt, math.MinInt32, -127, -126, -1, 0, 127, 128, 255, 256, 257, 1 << 16, 1<<16 + 1, 1<<32 + 1, math.MaxInt} {
		if x, e := readers.New(many); x != nil || e != api.ErrArg {
			t.Errorf("New of %d tells error %d", many, e)
		}
	}
	for _, many := range []int{1, 2, 63, 64, 65, 125, 126} {
		x := made(t, many)
		what := "New of " + strconv.Itoa(many)
		wantAsTold(t, what, x, make(asTold, many), 3)
		wantClear(t, what, x, 0)
		for slot := range many {
			wantDead(t, what, x, slot, false)
		}
	}
}

func TestP91BeginUntilAllAreTaken(t *testing.T) {
	for many := 1; many <= 126; many++ {
		x := made(t, many)
		for i := range many {
			wantBegin(t, "one more", x, uint64(1000-i), at(i, 1))
			wantLive(t, "one more", x, i+1)
		}
		for range 3 {
			wantNoBegin(t, "all are taken", x, api.ErrReaders)
		}
		wantLive(t, "all are taken", x, many)
		for i := range many {
			wantTxn(t, "all are taken", x, at(i, 1), uint64(1000-i))
		}
		wantBad(t, "all are taken", x, at(many, 0), at(many, 1), at(0, 2), at(many-1, 2))
		wantEnd(t, "all are taken", x, at(many-1, 1))
		wantBegin(t, "one of them ended", x, 7, at(many-1, 2))
		wantNoBegin(t, "all are taken again", x, api.ErrReaders)
	}
}

func TestP91TheLowestFreeSlot(t *testing.T) {
	x := reading(t, 5, 10, 11, 12, 13)
	wantEnd(t, "in the middle", x, at(2, 1))
	wantEnd(t, "in the middle", x, at(1, 1))
	wantLive(t, "in the middle", x, 2)
	wantBegin(t, "the lowest one", x, 20, at(1, 2))
	wantBegin(t, "the next one", x, 21, at(2, 2))
	wantBegin(t, "behind all", x, 22, at(4, 1))
	wantNoBegin(t, "none", x, api.ErrReaders)
	for i, want := range []uint64{10, 20, 21, 13, 22} {
		turn := uint64(1)
		if i == 1 || i == 2 {
			turn = 2
		}
		wantTxn(t, "all of them", x, at(i, turn), want)
	}
	wantEnd(t, "the last one", x, at(4, 1))
	wantEnd(t, "the first one", x, at(0, 1))
	wantBegin(t, "the first one", x, 23, at(0, 2))
	wantBegin(t, "the last one", x, 24, at(4, 2))
}

// A slot whose reader is dead is free when that one is cleared, no sooner.
func TestP91TheDeadStandToo(t *testing.T) {
	x := reading(t, 3, 10, 11, 12)
	wantDead(t, "in the middle", x, 1, true)
	wantNoBegin(t, "a dead one stands there", x, api.ErrReaders)
	wantClear(t, "in the middle", x, 1)
	wantBegin(t, "cleared", x, 13, at(1, 2))
	wantNoBegin(t, "none", x, api.ErrReaders)
}

func TestP91WhatIsRead(t *testing.T) {
	l := []uint64{0, 1, 255, 256, 1<<31 - 1, 1 << 31, 1<<32 - 1, 1 << 32, 1<<63 - 1, 1 << 63, txnMost - 1, txnMost, 0, 7, 7}
	x := reading(t, len(l), l...)
	for i, want := range l {
		wantTxn(t, "what is read", x, at(i, 1), want)
	}
}

// Each table has slots and turns of its own.
func TestP91TwoTables(t *testing.T) {
	a, b := reading(t, 2, 4), reading(t, 3)
	wantLive(t, "the other one", b, 0)
	wantBad(t, "the other one", b, at(0, 1))
	wantBegin(t, "the other one", b, 9, at(0, 1))
	wantTxn(t, "the one", a, at(0, 1), 4)
	wantEnd(t, "the other one", b, at(0, 1))
	wantTxn(t, "the one", a, at(0, 1), 4)
	wantBegin(t, "the one", a, 5, at(1, 1))
	wantBegin(t, "the other one", b, 6, at(0, 2))
}

func TestP91OfNil(t *testing.T) {
	var x *readers.Table
	wantNoBegin(t, "nil", x, api.ErrArg)
	for _, txn := range []uint64{0, 1, txnMost} {
		if h, e := x.Begin(txn); h != at(0, 0) || e != api.ErrArg {
			t.Errorf("nil: Begin of %d is %s, error %d", txn, show(h), e)
		}
	}
}

// P9.2

func TestP92Example(t *testing.T) {
	x := made(t, 2)
	wantBegin(t, "the chapter's", x, 5, at(0, 1))
	wantBegin(t, "the chapter's", x, 7, at(1, 1))
	wantOldest(t, "the chapter's", x, 9, 5)
}

func TestP92TxnAndEnd(t *testing.T) {
	x := reading(t, 4, 30, 20, 40)
	for range 2 {
		wantTxn(t, "good", x, at(0, 1), 30)
		wantTxn(t, "good", x, at(1, 1), 20)
		wantTxn(t, "good", x, at(2, 1), 40)
	}
	wantEnd(t, "good", x, at(1, 1))
	wantBad(t, "ended, and ended twice", x, at(1, 1), at(1, 1))
	wantLive(t, "ended", x, 2)
	wantTxn(t, "another one ended", x, at(0, 1), 30)
	wantTxn(t, "another one ended", x, at(2, 1), 40)
	wantEnd(t, "good", x, at(0, 1))
	wantEnd(t, "good", x, at(2, 1))
	wantBad(t, "all ended", x, at(0, 1), at(1, 1), at(2, 1))
	wantLive(t, "all ended", x, 0)
}

func TestP92NoGoodHandles(t *testing.T) {
	x := reading(t, 4, 30, 20, 40)
	wantEnd(t, "slot 1", x, at(1, 1))
	wantBegin(t, "slot 1", x, 21, at(1, 2))
	wantEnd(t, "slot 2", x, at(2, 1))
	wantBad(t, "an older turn, and another reader", x, at(1, 1))
	wantBad(t, "a turn that is yet to come", x, at(0, 2), at(1, 3), at(2, 2), at(3, 1), at(0, txnMost))
	wantBad(t, "a turn that differs above", x, at(0, 1<<8+1), at(0, 1<<16+1), at(0, 1<<32+1), at(0, 1<<63+1))
	wantBad(t, "turn 0", x, at(0, 0), at(1, 0), at(2, 0), at(3, 0))
	wantBad(t, "the slot's turn, but nobody there", x, at(2, 1), at(3, 0))
	wantBad(t, "nobody ever stood there", x, at(3, 0), at(3, 1), at(3, 2))
	for _, slot := range []int{math.MinInt, math.MinInt32, -126, -4, -3, -1, 4, 5, 8, 125, 126, 127, 1 << 8, 1 << 32, 1<<32 + 1, math.MaxInt32, math.MaxInt} {
		wantBad(t, "no slot", x, at(slot, 0), at(slot, 1), at(slot, 2))
	}
	wantLive(t, "behind all that", x, 2)
	wantTxn(t, "behind all that", x, at(0, 1), 30)
	wantTxn(t, "behind all that", x, at(1, 2), 21)
}

func TestP92HandlesOfAllSlots(t *testing.T) {
	x := reading(t, 126, make([]uint64, 126)...)
	wantBad(t, "no slot", x, at(-1, 0), at(-1, 1), at(126, 0), at(126, 1), at(127, 1))
	wantTxn(t, "the last slot", x, at(125, 1), 0)
	wantDead(t, "the last slot", x, 125, true)
	wantDead(t, "no slot", x, 126, false)
	wantClear(t, "the last slot", x, 1)
	wantBad(t, "the last slot", x, at(125, 1))
	wantLive(t, "the last slot", x, 125)
}

func TestP92TheZeroHandle(t *testing.T) {
	for _, many := range []int{1, 2, 126} {
		x := made(t, many)
		wantBad(t, "ahead of any Begin", x, at(0, 0), readers.Handle{})
		wantBegin(t, "the first one", x, 5, at(0, 1))
		wantBad(t, "behind the first Begin", x, at(0, 0))
		wantEnd(t, "the first one", x, at(0, 1))
		wantBad(t, "behind the first End", x, at(0, 0))
	}
}

func TestP92Dead(t *testing.T) {
	x := reading(t, 4, 30, 20, 40)
	wantEnd(t, "slot 2", x, at(2, 1))
	for _, slot := range []int{math.MinInt, -126, -2, -1, 2, 3, 4, 5, 125, 126, 127, 1 << 32, 1<<32 + 1, math.MaxInt} {
		wantDead(t, "no reader there", x, slot, false)
	}
	wantClear(t, "none is dead", x, 0)
	for range 3 {
		wantDead(t, "a reader there", x, 1, true)
	}
	wantLive(t, "a dead one is one", x, 2)
	for range 2 {
		wantTxn(t, "a dead one reads on", x, at(1, 1), 20)
		wantOldest(t, "a dead one reads on", x, 25, 20)
	}
	wantTxn(t, "another one", x, at(0, 1), 30)
	wantBad(t, "a dead one has just its turn", x, at(1, 0), at(1, 2))
	wantClear(t, "one is dead", x, 1)
	wantDead(t, "cleared", x, 1, false)
	wantOldest(t, "cleared", x, 25, 25)
	wantOldest(t, "cleared", x, 35, 30)
}

func TestP92TheDeadMayEnd(t *testing.T) {
	x := reading(t, 2, 30, 20)
	wantDead(t, "a reader there", x, 1, true)
	wantEnd(t, "dead", x, at(1, 1))
	wantBad(t, "dead, and ended", x, at(1, 1))
	wantDead(t, "dead, and ended", x, 1, false)
	wantLive(t, "dead, and ended", x, 1)
	wantClear(t, "dead, and ended", x, 0)
	wantTxn(t, "another one", x, at(0, 1), 30)
}

// That one was dead is nothing to the next one in its slot.
func TestP92TheNextOneLives(t *testing.T) {
	x := reading(t, 1, 20)
	wantDead(t, "a reader there", x, 0, true)
	wantEnd(t, "dead", x, at(0, 1))
	wantBegin(t, "behind End", x, 21, at(0, 2))
	wantClear(t, "behind End", x, 0)
	wantTxn(t, "behind End", x, at(0, 2), 21)
	wantDead(t, "behind End", x, 0, true)
	wantClear(t, "dead again", x, 1)
	wantBegin(t, "behind Clear", x, 22, at(0, 3))
	wantClear(t, "behind Clear", x, 0)
	wantTxn(t, "behind Clear", x, at(0, 3), 22)
	wantBad(t, "older ones", x, at(0, 0), at(0, 1), at(0, 2))
}

func TestP92Clear(t *testing.T) {
	x := reading(t, 5, 30, 20, 40, 50)
	wantClear(t, "none", x, 0)
	wantLive(t, "none", x, 4)
	wantDead(t, "some", x, 3, true)
	wantDead(t, "some", x, 1, true)
	wantClear(t, "some", x, 2)
	wantClear(t, "twice", x, 0)
	wantBad(t, "some", x, at(1, 1), at(3, 1))
	wantTxn(t, "the others", x, at(0, 1), 30)
	wantTxn(t, "the others", x, at(2, 1), 40)
	wantLive(t, "some", x, 2)
	wantBegin(t, "behind some", x, 60, at(1, 2))
	wantBegin(t, "behind some", x, 61, at(3, 2))
	wantBad(t, "older ones", x, at(1, 1), at(3, 1))
	for slot := range 4 {
		wantDead(t, "all", x, slot, true)
	}
	wantClear(t, "all", x, 4)
	wantClear(t, "all, twice", x, 0)
	wantLive(t, "all", x, 0)
	wantOldest(t, "all", x, 70, 70)
	wantBad(t, "all", x, at(0, 1), at(1, 2), at(2, 1), at(3, 2))
	wantBegin(t, "behind all", x, 71, at(0, 2))
}

func TestP92ClearOfAsManyAsMayBe(t *testing.T) {
	x := reading(t, 126, make([]uint64, 126)...)
	for slot := range 126 {
		wantDead(t, "each", x, slot, true)
	}
	wantNoBegin(t, "all are dead", x, api.ErrReaders)
	wantClear(t, "each", x, 126)
	for slot := range 126 {
		wantBad(t, "each", x, at(slot, 1))
		wantBegin(t, "each again", x, 5, at(slot, 2))
	}
}

func TestP92Oldest(t *testing.T) {
	for _, x := range []struct {
		what      string
		read      []uint64
		txn, want uint64
	}{
		{"none", nil, 0, 0},
		{"none", nil, 7, 7},
		{"none", nil, txnMost, txnMost},
		{"one below", []uint64{6}, 7, 6},
		{"the same", []uint64{7}, 7, 7},
		{"one above", []uint64{8}, 7, 7},
		{"one of 0", []uint64{0}, 7, 0},
		{"one of 0, of 0", []uint64{0}, 0, 0},
		{"one above, of 0", []uint64{1}, 0, 0},
		{"the greatest one, of 0", []uint64{txnMost}, 0, 0},
		{"the greatest one, of itself", []uint64{txnMost}, txnMost, txnMost},
		{"just below the greatest one", []uint64{txnMost - 1}, txnMost, txnMost - 1},
		{"one of 0, of the greatest one", []uint64{0}, txnMost, 0},
		{"the greatest one, above", []uint64{txnMost}, txnMost - 1, txnMost - 1},
		{"above 32 bits", []uint64{1 << 32}, 1<<32 + 1, 1 << 32},
		{"above 32 bits, though the lower ones are below", []uint64{1 << 32}, 1<<32 - 1, 1<<32 - 1},
		{"above 63 bits", []uint64{1 << 63}, 1<<63 + 1, 1 << 63},
		{"above 63 bits", []uint64{1 << 63}, 5, 5},
		{"several, the first one", []uint64{3, 5, 9}, 7, 3},
		{"several, the middle one", []uint64{5, 3, 9}, 7, 3},
		{"several, the last one", []uint64{9, 5, 3}, 7, 3},
		{"several, all above", []uint64{9, 12, 8}, 7, 7},
		{"several, all the same", []uint64{6, 6, 6}, 7, 6},
		{"several, one of them the same", []uint64{9, 7, 8}, 7, 7},
	} {
		for _, many := range []int{max(1, len(x.read)), 10, 126} {
			wantOldest(t, x.what, reading(t, many, x.read...), x.txn, x.want)
		}
	}
}

// Those that ended read no more; the dead do, until they are cleared.
func TestP92OldestOfThoseThatGo(t *testing.T) {
	x := reading(t, 4, 5, 3, 4, 8)
	wantOldest(t, "all", x, 9, 3)
	wantDead(t, "the least one", x, 1, true)
	wantOldest(t, "the least one is dead", x, 9, 3)
	wantEnd(t, "the next one", x, at(2, 1))
	wantOldest(t, "the next one ended", x, 9, 3)
	wantClear(t, "the least one", x, 1)
	wantOldest(t, "the least one is cleared", x, 9, 5)
	wantEnd(t, "the first one", x, at(0, 1))
	wantOldest(t, "the first one ended", x, 9, 8)
	wantDead(t, "the last one", x, 3, true)
	wantOldest(t, "the last one is dead", x, 9, 8)
	wantEnd(t, "the last one", x, at(3, 1))
	wantOldest(t, "all ended", x, 9, 9)
	wantBegin(t, "another one", x, 6, at(0, 2))
	wantOldest(t, "another one", x, 9, 6)
	wantOldest(t, "another one", x, 2, 2)
}

func TestP92Live(t *testing.T) {
	x := made(t, 3)
	wantLive(t, "none", x, 0)
	for i := range 3 {
		wantBegin(t, "one more", x, 0, at(i, 1))
		wantLive(t, "one more", x, i+1)
	}
	wantNoBegin(t, "one too many", x, api.ErrReaders)
	wantLive(t, "one too many", x, 3)
	wantDead(t, "a dead one", x, 0, true)
	wantLive(t, "a dead one", x, 3)
	wantEnd(t, "an ended one", x, at(1, 1))
	wantLive(t, "an ended one", x, 2)
	wantClear(t, "a cleared one", x, 1)
	wantLive(t, "a cleared one", x, 1)
	wantEnd(t, "the last one", x, at(2, 1))
	wantLive(t, "the last one", x, 0)
}

func TestP92OfNil(t *testing.T) {
	var x *readers.Table
	for _, slot := range []int{math.MinInt, -1, 0, 1, 125, 126, math.MaxInt} {
		wantBad(t, "nil", x, at(slot, 0), at(slot, 1))
		wantDead(t, "nil", x, slot, false)
	}
	wantClear(t, "nil", x, 0)
	wantLive(t, "nil", x, 0)
	for _, txn := range []uint64{0, 1, 7, 1 << 32, txnMost} {
		wantOldest(t, "nil", x, txn, txn)
	}
}

// P9.3

// A handle stays bad however many turns its slot has behind it.
func TestP93ManyTurns(t *testing.T) {
	const turns = 70000 // more than a number of two bytes holds
	x := made(t, 1)
	for turn := uint64(1); turn <= turns; turn++ {
		h := at(0, turn)
		wantBegin(t, "many turns", x, turn, h)
		wantTxn(t, "many turns", x, h, turn)
		if turn%2 == 0 {
			wantEnd(t, "many turns", x, h)
		} else {
			wantDead(t, "many turns", x, 0, true)
			wantClear(t, "many turns", x, 1)
		}
		if _, e := x.Txn(h); e != api.ErrReader {
			t.Fatalf("many turns: Txn of %s, which is no reader's, tells error %d", show(h), e)
		}
	}
	wantBegin(t, "the last one", x, 5, at(0, turns+1))
	for turn := range uint64(turns + 1) {
		if _, e := x.Txn(at(0, turn)); e != api.ErrReader {
			t.Fatalf("Txn of turn %d, which was ended or cleared, tells error %d", turn, e)
		}
		if e := x.End(at(0, turn)); e != api.ErrReader {
			t.Fatalf("End of turn %d, which was ended or cleared, tells error %d", turn, e)
		}
	}
	wantTxn(t, "the last one", x, at(0, turns+1), 5)
}

// both are a table and what it is as told, with all handles that were told.
type both struct {
	x    *readers.Table
	m    asTold
	told []readers.Handle
	gone map[readers.Handle]bool
}

func newBoth(t *testing.T, many int) *both {
	t.Helper()
	return &both{x: made(t, many), m: make(asTold, many), gone: map[readers.Handle]bool{}}
}

func (b *both) begin(t *testing.T, txn uint64) {
	t.Helper()
	h, e := b.x.Begin(txn)
	want, wantErr := b.m.begin(txn)
	if h != want || e != wantErr {
		t.Errorf("Begin of %d is %s, error %d; want %s, error %d", txn, show(h), e, show(want), wantErr)
	}
	if e != api.OK {
		return
	}
	if slices.Contains(b.told, h) {
		t.Errorf("Begin of %d is %s, which was told ahead", txn, show(h))
	}
	b.told = append(b.told, h)
}

func (b *both) end(t *testing.T, h readers.Handle) {
	t.Helper()
	if e, want := b.x.End(h), b.m.end(h); e != want {
		t.Errorf("End of %s tells error %d, want %d", show(h), e, want)
	}
}

func (b *both) die(t *testing.T, slot int) {
	t.Helper()
	wantDead(t, "rows of calls", b.x, slot, b.m.die(slot))
}

func (b *both) clear(t *testing.T) {
	t.Helper()
	wantClear(t, "rows of calls", b.x, b.m.clear())
}

// holdGone holds that no handle that was bad once is good again.
func (b *both) holdGone(t *testing.T) {
	t.Helper()
	for _, h := range b.told {
		_, e := b.x.Txn(h)
		if e == api.OK && b.gone[h] {
			t.Errorf("%s is good again", show(h))
		}
		if e != api.OK {
			b.gone[h] = true
		}
	}
}

// nth is the handle that was told so many ahead of the last one; the zero one, if there is none.
func (b *both) nth(back int) readers.Handle {
	if back >= len(b.told) {
		return at(0, 0)
	}
	return b.told[len(b.told)-1-back]
}

// All rows of some calls, of two slots and of one.
func TestP93AllShortRows(t *testing.T) {
	calls := []func(*testing.T, *both){
		func(t *testing.T, b *both) { b.begin(t, 3) },
		func(t *testing.T, b *both) { b.begin(t, 8) },
		func(t *testing.T, b *both) { b.end(t, b.nth(0)) },
		func(t *testing.T, b *both) { b.end(t, b.nth(1)) },
		func(t *testing.T, b *both) { b.end(t, b.nth(2)) },
		func(t *testing.T, b *both) { b.die(t, 0) },
		func(t *testing.T, b *both) { b.die(t, 1) },
		func(t *testing.T, b *both) { b.clear(t) },
	}
	const long = 5
	rows := 1
	for range long {
		rows *= len(calls)
	}
	for many := 1; many <= 2; many++ {
		for row := range rows {
			b := newBoth(t, many)
			for x, i := row, 0; i < long; i++ {
				calls[x%len(calls)](t, b)
				b.holdGone(t)
				x /= len(calls)
			}
			wantAsTold(t, "rows of calls", b.x, b.m, long+2)
			if t.Failed() {
				t.Fatalf("row %d of %d slots", row, many)
			}
		}
	}
}

func TestP93LongRows(t *testing.T) {
	chance := rand.New(rand.NewPCG(9, 3))
	for _, many := range []int{1, 2, 3, 7, 126} {
		b := newBoth(t, many)
		for range 1500 {
			switch x := chance.IntN(20); {
			case x < 9:
				b.begin(t, chance.Uint64()>>chance.IntN(64))
			case x < 13:
				b.end(t, b.nth(chance.IntN(2*many)))
			case x < 14:
				b.end(t, at(chance.IntN(many+2)-1, chance.Uint64N(5)))
			case x < 19:
				b.die(t, chance.IntN(many+2)-1)
			default:
				b.clear(t)
			}
			b.holdGone(t)
			wantAsTold(t, "long rows", b.x, b.m, 5)
			if t.Failed() {
				t.FailNow()
			}
		}
	}
}
