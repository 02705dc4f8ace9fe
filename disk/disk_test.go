package disk_test

import (
	"bytes"
	"math"
	"math/rand/v2"
	"slices"
	"strconv"
	"testing"

	"rubricator/api"
	"rubricator/disk"
)

// asTold is a disk made word by word as the chapter says it: pages for good, and all that is loose, in order.
type asTold struct {
	size, limit int
	good        [][]byte
	loose       []told
	calls       int
	failing     int // how many calls count ahead of the one that fails; -1: none fails
}

type told struct {
	i int
	b []byte
}

func (m *asTold) counts() api.Errno {
	m.calls++
	if m.failing >= 0 {
		m.failing--
		if m.failing < 0 {
			return api.ErrIO
		}
	}
	return api.OK
}

func (m *asTold) grow(n int) api.Errno {
	if n < len(m.good) {
		return api.ErrArg
	}
	if n > m.limit {
		return api.ErrFull
	}
	if e := m.counts(); e != api.OK {
		return e
	}
	for len(m.good) < n {
		m.good = append(m.good, make([]byte, m.size))
	}
	return api.OK
}

func (m *asTold) read(i int) ([]byte, api.Errno) {
	if i < 0 || i >= len(m.good) {
		return nil, api.ErrRange
	}
	if e := m.counts(); e != api.OK {
		return nil, e
	}
	return m.now(i), api.OK
}

// now is what is read of page i.
func (m *asTold) now(i int) []byte {
	b := m.good[i]
	for _, w := range m.loose {
		if w.i == i {
			b = w.b
		}
	}
	return slices.Clone(b)
}

func (m *asTold) write(i int, b []byte) api.Errno {
	if i < 0 || i >= len(m.good) {
		return api.ErrRange
	}
	if len(b) != m.size {
		return api.ErrArg
	}
	if e := m.counts(); e != api.OK {
		return e
	}
	m.loose = append(m.loose, told{i, slices.Clone(b)})
	return api.OK
}

func (m *asTold) sync() api.Errno {
	if e := m.counts(); e != api.OK {
		return e
	}
	for _, w := range m.loose {
		m.good[w.i] = w.b
	}
	m.loose = nil
	return api.OK
}

func (m *asTold) crash(picks []byte) {
	for i, w := range m.loose {
		page := slices.Clone(m.good[w.i])
		for k := range page {
			sector := k / 128
			if i < len(picks) && picks[i]&[]byte{1, 2, 4, 8, 16, 32, 64, 128}[sector%8] != 0 {
				page[k] = w.b[k]
			}
		}
		m.good[w.i] = page
	}
	m.loose, m.failing = nil, -1
}

func wantErr(t *testing.T, what string, got, want api.Errno) {
	t.Helper()
	if got != want {
		t.Errorf("%s: error %d, want %d", what, got, want)
	}
}

func wantNum(t *testing.T, what string, got, want int) {
	t.Helper()
	if got != want {
		t.Errorf("%s: got %d, want %d", what, got, want)
	}
}

// wantPage holds a page against bytes; to read it counts.
func wantPage(t *testing.T, what string, d *disk.Disk, i int, want []byte) {
	t.Helper()
	b, e := d.Read(i)
	wantErr(t, what, e, api.OK)
	if !bytes.Equal(b, want) {
		t.Errorf("%s: page %d is %s, want %s", what, i, sectors(b), sectors(want))
	}
}

// wantState holds what is told of all the disk.
func wantState(t *testing.T, what string, d *disk.Disk, pages, loose, calls int) {
	t.Helper()
	wantNum(t, what+": Len", d.Len(), pages)
	wantNum(t, what+": Loose", d.Loose(), loose)
	wantNum(t, what+": Calls", d.Calls(), calls)
}

// sectors tells of a page how many bytes it has, and the first one of each sector.
func sectors(b []byte) string {
	s := strconv.Itoa(len(b)) + " bytes:"
	for i := 0; i < len(b); i += 128 {
		s += " " + strconv.Itoa(int(b[i]))
	}
	return s
}

// page is a page of one byte.
func page(size int, c byte) []byte { return bytes.Repeat([]byte{c}, size) }

// parts is a page of sectors of one byte each.
func parts(l ...byte) []byte {
	var b []byte
	for _, c := range l {
		b = append(b, page(128, c)...)
	}
	return b
}

// grown is a disk of so many pages, of which one call counted.
func grown(t *testing.T, size, n int) *disk.Disk {
	t.Helper()
	d, e := disk.New(size, 65536)
	wantErr(t, "New", e, api.OK)
	wantErr(t, "Grow", d.Grow(n), api.OK)
	return d
}

// from is a disk with such pages, of which no call counted.
func from(t *testing.T, b []byte, size int) *disk.Disk {
	t.Helper()
	d, e := disk.From(b, size, 65536)
	wantErr(t, "From", e, api.OK)
	return d
}

func mustWrite(t *testing.T, d *disk.Disk, i int, b []byte) {
	t.Helper()
	wantErr(t, "Write", d.Write(i, b), api.OK)
}

func mustSync(t *testing.T, d *disk.Disk) {
	t.Helper()
	wantErr(t, "Sync", d.Sync(), api.OK)
}

func rightSize(size int) bool { return size%128 == 0 && size >= 512 && size <= 4096 }

func checkNew(t *testing.T, size, limit int) {
	t.Helper()
	d, e := disk.New(size, limit)
	f, ef := disk.From(nil, size, limit)
	if !rightSize(size) || limit < 1 || limit > 65536 {
		if d != nil || e != api.ErrArg || f != nil || ef != api.ErrArg {
			t.Errorf("size %d, limit %d: error %d of New, %d of From, want 1, and no disk", size, limit, e, ef)
		}
		return
	}
	for _, d := range []*disk.Disk{d, f} {
		wantNum(t, "Size", d.Size(), size)
		wantNum(t, "Limit", d.Limit(), limit)
		wantState(t, "a new one", d, 0, 0, 0)
	}
	wantErr(t, "New", e, api.OK)
	wantErr(t, "From", ef, api.OK)
}

func TestP31Sizes(t *testing.T) {
	for size := -4200; size <= 8300; size++ {
		checkNew(t, size, 1)
	}
	for _, size := range []int{math.MinInt, math.MinInt + 128, math.MaxInt, math.MaxInt - 127, 1 << 16, 1 << 32, 1<<32 + 512} {
		checkNew(t, size, 1)
	}
}

func TestP31Limits(t *testing.T) {
	for _, limit := range []int{math.MinInt, -65536, -1, 0, 1, 2, 255, 256, 32768, 65535, 65536, 65537, 1 << 17, 1<<32 + 1, math.MaxInt} {
		for _, size := range []int{512, 640, 4096, 511, 513, 4097, 4224, 0, -512} {
			checkNew(t, size, limit)
		}
	}
}

func TestP31FromPages(t *testing.T) {
	for _, size := range []int{512, 640, 1152, 4096} {
		for _, n := range []int{0, 1, 2, 3, 7} {
			var b []byte
			for i := range n {
				b = append(b, page(size, byte(i+1))...)
			}
			d, e := disk.From(b, size, 7)
			wantErr(t, "From", e, api.OK)
			wantNum(t, "Size", d.Size(), size)
			wantNum(t, "Limit", d.Limit(), 7)
			wantState(t, "From", d, n, 0, 0)
			for i := range n {
				wantPage(t, "From", d, i, page(size, byte(i+1)))
			}
			_, e = d.Read(n)
			wantErr(t, "Read behind the last page", e, api.ErrRange)
		}
	}
}

func TestP31FromIsForGood(t *testing.T) {
	d := from(t, parts(1, 2, 3, 4, 5, 6, 7, 8), 512)
	d.Crash(nil)
	d.Crash([]byte{255, 255})
	wantPage(t, "behind a crash", d, 0, parts(1, 2, 3, 4))
	wantPage(t, "behind a crash", d, 1, parts(5, 6, 7, 8))
	mustWrite(t, d, 1, page(512, 9))
	d.Crash(nil)
	wantPage(t, "behind a write that is gone", d, 1, parts(5, 6, 7, 8))
}

func TestP31FromWrongBytes(t *testing.T) {
	for _, x := range []struct{ bytes, size, limit int }{
		{1, 512, 9}, {511, 512, 9}, {513, 512, 9}, {1023, 512, 9}, {1025, 512, 9}, {640, 512, 9}, {512, 640, 9}, {512, 4096, 9}, // no multiple
		{1024, 512, 1}, {1536, 512, 2}, {8192, 4096, 1}, {512 * 65537, 512, 65536}, // too many pages
		{512, 500, 9}, {500, 500, 9}, {512, 0, 9}, {512, -512, 9}, {512, 128, 9}, {8192, 8192, 9}, // no size
		{512, 512, 0}, {512, 512, -1}, {512, 512, 65537}, {0, 512, 0}, {1, 1, 0}, // no limit
	} {
		d, e := disk.From(make([]byte, x.bytes), x.size, x.limit)
		if d != nil || e != api.ErrArg {
			t.Errorf("From of %d bytes, size %d, limit %d: error %d, want 1, and no disk", x.bytes, x.size, x.limit, e)
		}
	}
	for _, x := range []struct{ bytes, size, limit int }{{1024, 512, 2}, {512, 512, 1}, {4096, 4096, 1}, {4096, 512, 8}, {512 * 65536, 512, 65536}} {
		d, e := disk.From(make([]byte, x.bytes), x.size, x.limit)
		wantErr(t, "From of as many as may be", e, api.OK)
		wantState(t, "From of as many as may be", d, x.bytes/x.size, 0, 0)
		wantErr(t, "Grow of such a one", d.Grow(x.limit+1), api.ErrFull)
	}
}

func TestP31FromKeepsNothing(t *testing.T) {
	b := parts(1, 2, 3, 4, 5, 6, 7, 8)
	d := from(t, b, 512)
	clear(b)
	wantPage(t, "what was handed in is changed", d, 0, parts(1, 2, 3, 4))
	wantPage(t, "what was handed in is changed", d, 1, parts(5, 6, 7, 8))
	mustWrite(t, d, 0, page(512, 9))
	mustSync(t, d)
	if !bytes.Equal(b, make([]byte, 1024)) {
		t.Error("what was handed in is written to")
	}
}

func TestP31Nil(t *testing.T) {
	var d *disk.Disk
	wantNum(t, "Size of nil", d.Size(), 0)
	wantNum(t, "Limit of nil", d.Limit(), 0)
	wantState(t, "nil", d, 0, 0, 0)
}

func TestP32Nil(t *testing.T) {
	var d *disk.Disk
	for _, n := range []int{-1, 0, 1, math.MaxInt} {
		wantErr(t, "Grow of nil", d.Grow(n), api.ErrArg)
		b, e := d.Read(n)
		if b != nil || e != api.ErrArg {
			t.Errorf("Read of nil: %v, error %d", b, e)
		}
		wantErr(t, "Write of nil", d.Write(n, nil), api.ErrArg)
		wantErr(t, "Write of nil", d.Write(n, make([]byte, 512)), api.ErrArg)
	}
	wantErr(t, "Sync of nil", d.Sync(), api.ErrArg)
}

// A disk that New didn't make has no page, and may have none: no call of it panics.
func TestP32ADiskThatNewDidNotMake(t *testing.T) {
	d := new(disk.Disk)
	wantErr(t, "Grow", d.Grow(1), api.ErrFull)
	_, e := d.Read(0)
	wantErr(t, "Read", e, api.ErrRange)
	wantErr(t, "Write", d.Write(0, nil), api.ErrRange)
	wantErr(t, "Sync", d.Sync(), api.OK)
	d.Crash([]byte{1})
	wantNum(t, "Size", d.Size(), 0)
	wantNum(t, "Limit", d.Limit(), 0)
	wantState(t, "it", d, 0, 0, 1)
}

func TestP32Grow(t *testing.T) {
	d, _ := disk.New(512, 5)
	wantErr(t, "Grow of below 0", d.Grow(-1), api.ErrArg)
	wantErr(t, "Grow of the least", d.Grow(math.MinInt), api.ErrArg)
	wantErr(t, "Grow of one too many", d.Grow(6), api.ErrFull)
	wantErr(t, "Grow of the most", d.Grow(math.MaxInt), api.ErrFull)
	wantState(t, "refused", d, 0, 0, 0)
	wantErr(t, "Grow of 0", d.Grow(0), api.OK)
	wantState(t, "Grow of 0", d, 0, 0, 1)
	wantErr(t, "Grow of 2", d.Grow(2), api.OK)
	wantState(t, "Grow of 2", d, 2, 0, 2)
	wantErr(t, "Grow of as many", d.Grow(2), api.OK)
	wantState(t, "Grow of as many", d, 2, 0, 3)
	wantErr(t, "Grow of fewer", d.Grow(1), api.ErrArg)
	wantErr(t, "Grow of none", d.Grow(0), api.ErrArg)
	wantState(t, "Grow of fewer", d, 2, 0, 3)
	wantErr(t, "Grow of the limit", d.Grow(5), api.OK)
	wantErr(t, "Grow of the limit again", d.Grow(5), api.OK)
	wantState(t, "Grow of the limit", d, 5, 0, 5)
	for i := range 5 {
		wantPage(t, "a page of noughts", d, i, make([]byte, 512))
	}
}

func TestP32GrowToTheGreatestLimit(t *testing.T) {
	d, _ := disk.New(4096, 65536)
	wantErr(t, "Grow above the greatest limit", d.Grow(65537), api.ErrFull)
	wantErr(t, "Grow to the greatest limit", d.Grow(65536), api.OK)
	wantPage(t, "the first page", d, 0, make([]byte, 4096))
	mustWrite(t, d, 65535, page(4096, 1))
	wantPage(t, "the last page", d, 65535, page(4096, 1))
	wantPage(t, "the one ahead", d, 65534, make([]byte, 4096))
}

func TestP32GrowIsForGood(t *testing.T) {
	d := from(t, page(512, 7), 512)
	mustWrite(t, d, 0, page(512, 8))
	wantErr(t, "Grow", d.Grow(3), api.OK)
	wantState(t, "Grow", d, 3, 1, 2)
	wantPage(t, "what is loose stays", d, 0, page(512, 8))
	d.Crash(nil)
	wantState(t, "behind a crash", d, 3, 0, 3)
	wantPage(t, "what was there", d, 0, page(512, 7))
	wantPage(t, "new", d, 1, make([]byte, 512))
	wantPage(t, "new", d, 2, make([]byte, 512))
}

// New pages may be made of one page of noughts: it must stay one.
func TestP32NewPagesAreApart(t *testing.T) {
	d := grown(t, 512, 3)
	mustWrite(t, d, 1, page(512, 5))
	wantPage(t, "beside a loose one", d, 0, make([]byte, 512))
	mustSync(t, d)
	wantPage(t, "beside a synced one", d, 2, make([]byte, 512))
	mustWrite(t, d, 0, page(512, 6))
	d.Crash([]byte{1})
	wantPage(t, "torn", d, 0, parts(6, 0, 0, 0))
	wantPage(t, "beside a torn one", d, 2, make([]byte, 512))
	b, _ := d.Read(2)
	for i := range b {
		b[i] = 9
	}
	wantErr(t, "Grow", d.Grow(5), api.OK)
	for i, want := range [][]byte{parts(6, 0, 0, 0), page(512, 5), make([]byte, 512), make([]byte, 512), make([]byte, 512)} {
		wantPage(t, "at last", d, i, want)
	}
}

func TestP32Places(t *testing.T) {
	for _, n := range []int{0, 1, 3} {
		d := grown(t, 512, n)
		for _, i := range []int{math.MinInt, -65536, -1, n, n + 1, 65535, 65536, 1 << 32, math.MaxInt} {
			b, e := d.Read(i)
			if b != nil || e != api.ErrRange {
				t.Errorf("Read of %d of %d pages: error %d, want 15", i, n, e)
			}
			wantErr(t, "Write to no page", d.Write(i, page(512, 1)), api.ErrRange)
			wantErr(t, "Write of wrong bytes to no page", d.Write(i, page(511, 1)), api.ErrRange)
			wantErr(t, "Write of nothing to no page", d.Write(i, nil), api.ErrRange)
		}
		wantState(t, "refused", d, n, 0, 1)
	}
}

func TestP32WriteOfWrongBytes(t *testing.T) {
	for _, size := range []int{512, 640, 4096} {
		d := grown(t, size, 1)
		for _, n := range []int{0, 1, 128, 384, size - 128, size - 1, size + 1, size + 128, 2 * size} {
			wantErr(t, "Write of wrong bytes", d.Write(0, page(n, 1)), api.ErrArg)
		}
		wantErr(t, "Write of nil", d.Write(0, nil), api.ErrArg)
		wantState(t, "refused", d, 1, 0, 1)
		wantPage(t, "refused", d, 0, make([]byte, size))
	}
}

func TestP32WriteReadSync(t *testing.T) {
	d := from(t, parts(1, 1, 1, 1, 2, 2, 2, 2), 512)
	mustWrite(t, d, 1, parts(3, 4, 5, 6))
	wantState(t, "Write", d, 2, 1, 1)
	wantPage(t, "loose", d, 1, parts(3, 4, 5, 6))
	wantPage(t, "beside", d, 0, page(512, 1))
	mustWrite(t, d, 1, parts(7, 7, 7, 7))
	mustWrite(t, d, 0, parts(8, 8, 8, 8))
	wantState(t, "more of it", d, 2, 3, 5)
	wantPage(t, "loose, and over what was", d, 1, page(512, 7))
	mustSync(t, d)
	wantState(t, "Sync", d, 2, 0, 7)
	wantPage(t, "synced", d, 0, page(512, 8))
	wantPage(t, "synced, the last one", d, 1, page(512, 7))
	mustSync(t, d)
	wantState(t, "Sync of nothing", d, 2, 0, 10)
	d.Crash([]byte{255, 255, 255})
	wantPage(t, "for good", d, 0, page(512, 8))
	wantPage(t, "for good", d, 1, page(512, 7))
}

func TestP32WriteOfWhatIsThere(t *testing.T) {
	d := from(t, page(512, 1), 512)
	mustWrite(t, d, 0, page(512, 1))
	mustWrite(t, d, 0, page(512, 1))
	wantState(t, "the same bytes are loose too", d, 1, 2, 2)
}

func TestP32KeepsNothingAndHandsNothingOut(t *testing.T) {
	d := grown(t, 512, 2)
	b := page(512, 1)
	mustWrite(t, d, 0, b)
	b[0] = 99
	wantPage(t, "handed in, changed, loose", d, 0, page(512, 1))
	for range 2 {
		r, _ := d.Read(0)
		_ = append(r, 98)
		clear(r)
	}
	wantPage(t, "read, changed, loose", d, 0, page(512, 1))
	mustSync(t, d)
	b[1] = 99
	wantPage(t, "handed in, changed, synced", d, 0, page(512, 1))
	r, _ := d.Read(0)
	clear(r)
	other, _ := d.Read(0)
	wantPage(t, "read, changed, synced", d, 0, page(512, 1))
	mustWrite(t, d, 0, page(512, 2))
	mustSync(t, d)
	mustWrite(t, d, 0, page(512, 3))
	d.Crash([]byte{15})
	if !bytes.Equal(r, make([]byte, 512)) || !bytes.Equal(other, page(512, 1)) {
		t.Error("what was read is written to")
	}
	if b[0] != 99 || b[1] != 99 || !bytes.Equal(b[2:], page(510, 1)) {
		t.Error("what was handed in is written to")
	}
	picks := []byte{15, 1}
	mustWrite(t, d, 1, page(512, 3))
	d.Crash(picks)
	wantPage(t, "a crash", d, 1, page(512, 3))
	if !bytes.Equal(picks, []byte{15, 1}) {
		t.Error("picks are written to")
	}
}

func TestP32TheCallThatFails(t *testing.T) {
	for _, x := range []struct {
		what string
		call func(d *disk.Disk) api.Errno
	}{
		{"Grow", func(d *disk.Disk) api.Errno { return d.Grow(9) }},
		{"Grow of as many", func(d *disk.Disk) api.Errno { return d.Grow(2) }},
		{"Read", func(d *disk.Disk) api.Errno {
			b, e := d.Read(1)
			if e != api.OK && b != nil {
				t.Error("a Read that fails tells bytes")
			}
			return e
		}},
		{"Write", func(d *disk.Disk) api.Errno { return d.Write(1, page(512, 3)) }},
		{"Sync", func(d *disk.Disk) api.Errno { return d.Sync() }},
	} {
		for after := range 4 {
			d := from(t, page(1024, 1), 512)
			mustWrite(t, d, 0, page(512, 2))
			d.Fail(after)
			for range after {
				wantPage(t, "ahead of the one that fails", d, 0, page(512, 2))
			}
			wantErr(t, x.what, x.call(d), api.ErrIO)
			wantState(t, x.what+" that fails", d, 2, 1, after+2)
			wantPage(t, x.what+" that fails", d, 0, page(512, 2))
			wantPage(t, x.what+" that fails", d, 1, page(512, 1))
			wantErr(t, x.what+" behind it", x.call(d), api.OK)
			for i := range 5 {
				_, e := d.Read(i % 2)
				wantErr(t, "none fails behind it", e, api.OK)
			}
		}
	}
}

func TestP32WhatFailedIsNotThere(t *testing.T) {
	d := from(t, page(1024, 1), 512)
	mustWrite(t, d, 0, page(512, 2))
	d.Fail(0)
	wantErr(t, "Sync", d.Sync(), api.ErrIO)
	d.Fail(0)
	wantErr(t, "Write", d.Write(1, page(512, 3)), api.ErrIO)
	d.Fail(0)
	wantErr(t, "Grow", d.Grow(3), api.ErrIO)
	d.Crash([]byte{0, 255})
	wantState(t, "behind a crash", d, 2, 0, 4)
	wantPage(t, "a sync that failed", d, 0, page(512, 1))
	wantPage(t, "a write that failed", d, 1, page(512, 1))
}

func TestP32WhatCounts(t *testing.T) {
	d, _ := disk.From(page(1024, 1), 512, 3)
	refused := func() {
		t.Helper()
		calls := d.Calls()
		wantErr(t, "Grow of fewer", d.Grow(0), api.ErrArg)
		wantErr(t, "Grow of too many", d.Grow(4), api.ErrFull)
		_, e := d.Read(3)
		wantErr(t, "Read", e, api.ErrRange)
		wantErr(t, "Write to no page", d.Write(-1, page(512, 2)), api.ErrRange)
		wantErr(t, "Write of wrong bytes", d.Write(0, nil), api.ErrArg)
		_, _, _, _, _ = d.Size(), d.Len(), d.Limit(), d.Loose(), d.Calls()
		wantNum(t, "what is refused, or no call of those, counts not", d.Calls(), calls)
	}
	refused()
	d.Fail(2)
	wantNum(t, "Fail counts not", d.Calls(), 0)
	refused()
	mustWrite(t, d, 0, page(512, 2))
	refused()
	mustSync(t, d)
	refused()
	wantErr(t, "the one that fails", d.Grow(3), api.ErrIO)
	wantState(t, "it counts too", d, 2, 0, 3)
	refused()
	wantErr(t, "the one behind", d.Grow(3), api.OK)
	wantPage(t, "another one", d, 2, make([]byte, 512))
	d.Crash(nil)
	wantState(t, "Crash counts not", d, 3, 0, 5)
}

func TestP33Fail(t *testing.T) {
	d := grown(t, 512, 1)
	fails := func(what string, want ...bool) {
		t.Helper()
		for i, w := range want {
			_, e := d.Read(0)
			if (e == api.ErrIO) != w || e != api.ErrIO && e != api.OK {
				t.Errorf("%s: call %d tells %d", what, i, e)
			}
		}
	}
	fails("no Fail", false, false)
	d.Fail(0)
	fails("0", true, false, false)
	d.Fail(1)
	fails("1", false, true, false, false)
	d.Fail(3)
	fails("3", false, false, false, true, false, false, false, false)
	d.Fail(0)
	d.Fail(-1)
	fails("below 0", false, false, false)
	d.Fail(math.MinInt)
	fails("the least", false, false, false)
	d.Fail(math.MaxInt)
	fails("the most", false, false, false)
	d.Fail(3)
	fails("3, a part of it", false)
	d.Fail(2)
	fails("2 anew", false, false, true, false, false)
	d.Fail(0)
	d.Fail(1)
	fails("1 instead of 0", false, true, false)
	d.Fail(0)
	fails("0", true)
	d.Fail(0)
	fails("0 again", true, false)
}

func TestP33Nil(t *testing.T) {
	var d *disk.Disk
	d.Fail(0)
	d.Crash(nil)
	d.Crash([]byte{1, 2})
	wantState(t, "nil", d, 0, 0, 0)
	wantErr(t, "Sync of nil", d.Sync(), api.ErrArg)
}

func TestP33Example(t *testing.T) {
	d := grown(t, 512, 1)
	mustWrite(t, d, 0, parts(1, 2, 3, 4))
	d.Crash([]byte{2})
	wantPage(t, "the second 128 bytes are there", d, 0, parts(0, 2, 0, 0))
}

func TestP33EachPick(t *testing.T) {
	for pick := range 256 {
		d := from(t, parts(101, 102, 103, 104, 105, 106, 107, 108), 1024)
		mustWrite(t, d, 0, parts(1, 2, 3, 4, 5, 6, 7, 8))
		d.Crash([]byte{byte(pick)})
		var l []byte
		for s, bit := range []int{1, 2, 4, 8, 16, 32, 64, 128} {
			c := byte(s + 1)
			if pick/bit%2 == 0 {
				c += 100
			}
			l = append(l, c)
		}
		wantPage(t, "a pick", d, 0, parts(l...))
	}
}

// A sector is there whole, or not, whatever its bytes.
func TestP33SectorsAreWhole(t *testing.T) {
	chance := rand.New(rand.NewPCG(3, 3))
	for size := 512; size <= 4096; size += 128 {
		old, b := someBytes(chance, size), someBytes(chance, size)
		for s := range 8 {
			d := from(t, old, size)
			mustWrite(t, d, 0, b)
			d.Crash([]byte{1 << s})
			want := slices.Clone(old)
			for at := s * 128; at < size; at += 1024 {
				copy(want[at:at+128], b[at:])
			}
			wantPage(t, "one bit", d, 0, want)
		}
	}
}

func TestP33MoreThanEightSectors(t *testing.T) {
	d := grown(t, 1152, 1)
	mustWrite(t, d, 0, parts(1, 2, 3, 4, 5, 6, 7, 8, 9))
	d.Crash([]byte{1})
	wantPage(t, "nine sectors, the first bit", d, 0, parts(1, 0, 0, 0, 0, 0, 0, 0, 9))
	d = grown(t, 1152, 1)
	mustWrite(t, d, 0, parts(1, 2, 3, 4, 5, 6, 7, 8, 9))
	d.Crash([]byte{254})
	wantPage(t, "nine sectors, all but the first bit", d, 0, parts(0, 2, 3, 4, 5, 6, 7, 8, 0))
	var all, want []byte
	for s := range 32 {
		all = append(all, byte(s+1))
		if s%8 == 0 || s%8 == 3 || s%8 == 7 {
			want = append(want, byte(s+1))
		} else {
			want = append(want, 0)
		}
	}
	d = grown(t, 4096, 1)
	mustWrite(t, d, 0, parts(all...))
	d.Crash([]byte{1 + 8 + 128})
	wantPage(t, "32 sectors", d, 0, parts(want...))
}

func TestP33LooseOverLoose(t *testing.T) {
	for _, x := range []struct {
		what  string
		picks []byte
		want  []byte
	}{
		{"all of all", []byte{15, 15, 15}, parts(3, 3, 3, 3)},
		{"none", []byte{0, 0, 0}, parts(9, 9, 9, 9)},
		{"some of each", []byte{3, 6, 4}, parts(1, 2, 3, 9)},
		{"the first one over none", []byte{15, 0, 0}, parts(1, 1, 1, 1)},
		{"the last one over the first", []byte{15, 0, 8}, parts(1, 1, 1, 3)},
		{"the first one under the second", []byte{15, 5, 0}, parts(2, 1, 2, 1)},
		{"bits of no sector", []byte{240, 16, 128}, parts(9, 9, 9, 9)},
		{"too few picks", []byte{1, 2}, parts(1, 2, 9, 9)},
		{"one pick", []byte{8}, parts(9, 9, 9, 1)},
		{"no pick", []byte{}, parts(9, 9, 9, 9)},
		{"nil", nil, parts(9, 9, 9, 9)},
		{"too many picks", []byte{1, 2, 4, 15, 255}, parts(1, 2, 3, 9)},
	} {
		d := from(t, page(512, 9), 512)
		for i := range 3 {
			mustWrite(t, d, 0, page(512, byte(i+1)))
		}
		d.Crash(x.picks)
		wantState(t, x.what, d, 1, 0, 3)
		wantPage(t, x.what, d, 0, x.want)
	}
}

func TestP33PicksAreOfWritesNotOfPages(t *testing.T) {
	d := from(t, page(512*3, 9), 512)
	mustWrite(t, d, 2, page(512, 1))
	mustWrite(t, d, 0, page(512, 2))
	mustWrite(t, d, 2, page(512, 3))
	d.Crash([]byte{1, 2, 4})
	wantPage(t, "the second write", d, 0, parts(9, 2, 9, 9))
	wantPage(t, "none", d, 1, page(512, 9))
	wantPage(t, "the first and the third one", d, 2, parts(1, 9, 3, 9))
}

// The picks begin with the first write that is loose: none of those that were synced, refused or failed has one.
func TestP33PicksBeginWithWhatIsLoose(t *testing.T) {
	d := grown(t, 512, 2)
	mustWrite(t, d, 0, page(512, 1))
	mustSync(t, d)
	wantErr(t, "Write", d.Write(0, nil), api.ErrArg)
	d.Fail(0)
	wantErr(t, "Write", d.Write(0, page(512, 2)), api.ErrIO)
	mustWrite(t, d, 1, page(512, 3))
	wantNum(t, "Loose", d.Loose(), 1)
	d.Crash([]byte{1, 2})
	wantPage(t, "synced", d, 0, page(512, 1))
	wantPage(t, "the first one that is loose", d, 1, parts(3, 0, 0, 0))
	mustWrite(t, d, 0, page(512, 4))
	d.Crash([]byte{8})
	wantPage(t, "the first one behind a crash", d, 0, parts(1, 1, 1, 4))
}

func TestP33BehindACrash(t *testing.T) {
	d := grown(t, 512, 2)
	mustWrite(t, d, 0, page(512, 1))
	mustWrite(t, d, 1, page(512, 1))
	d.Fail(0)
	d.Crash([]byte{3})
	wantState(t, "nothing is loose", d, 2, 0, 3)
	wantPage(t, "no call fails, and part of a write is there", d, 0, parts(1, 1, 0, 0))
	d.Crash(nil)
	d.Crash([]byte{255, 255})
	wantPage(t, "what is there is there for good", d, 0, parts(1, 1, 0, 0))
	wantPage(t, "what is gone is gone", d, 1, make([]byte, 512))
	d.Fail(2)
	d.Crash(nil)
	for range 5 {
		mustSync(t, d)
	}
	d.Fail(1)
	mustSync(t, d)
	wantErr(t, "Fail behind a crash", d.Sync(), api.ErrIO)
}

func someBytes(chance *rand.Rand, n int) []byte {
	b := make([]byte, n)
	for i := range b {
		b[i] = byte(chance.Uint32())
	}
	return b
}

// Sectors of what was synced, over which nothing loose stood, are there whatever is picked.
func TestP34SyncedIsThere(t *testing.T) {
	chance := rand.New(rand.NewPCG(3, 4))
	for range 300 {
		size, n := 512+128*chance.IntN(29), 1+chance.IntN(6)
		d := grown(t, size, n)
		synced := make([][]byte, n)
		for i := range n {
			synced[i] = someBytes(chance, size)
			mustWrite(t, d, i, someBytes(chance, size))
			mustWrite(t, d, i, synced[i])
		}
		mustSync(t, d)
		over := map[int]bool{}
		for range chance.IntN(2 * n) {
			i := chance.IntN(n)
			over[i] = true
			mustWrite(t, d, i, someBytes(chance, size))
		}
		d.Crash(someBytes(chance, chance.IntN(2*n+1)))
		for i := range n {
			if !over[i] {
				wantPage(t, "synced", d, i, synced[i])
			}
		}
	}
}

// step does one thing, by chance, to a disk and to what it is held against.
func step(t *testing.T, chance *rand.Rand, d *disk.Disk, m *asTold) {
	t.Helper()
	i := chance.IntN(len(m.good)+3) - 1
	switch chance.IntN(12) {
	case 0:
		n := len(m.good) + chance.IntN(4) - 1
		wantErr(t, "Grow", d.Grow(n), m.grow(n))
	case 1, 2, 3:
		b, e := d.Read(i)
		want, we := m.read(i)
		wantErr(t, "Read", e, we)
		if !bytes.Equal(b, want) {
			t.Errorf("Read of %d: %s, want %s", i, sectors(b), sectors(want))
		}
	case 4, 5, 6, 7, 8:
		size := m.size
		if chance.IntN(8) == 0 {
			size += 128 * (chance.IntN(3) - 1)
		}
		b := someBytes(chance, size)
		e := d.Write(i, b)
		wantErr(t, "Write", e, m.write(i, b))
		clear(b)
	case 9:
		wantErr(t, "Sync", d.Sync(), m.sync())
	case 10:
		m.failing = max(chance.IntN(10)-2, -1)
		d.Fail(m.failing)
	case 11:
		picks := someBytes(chance, chance.IntN(len(m.loose)+2))
		d.Crash(picks)
		m.crash(picks)
	}
}

func TestP34AsTold(t *testing.T) {
	chance := rand.New(rand.NewPCG(3, 5))
	for range 200 {
		m := &asTold{size: 512 + 128*chance.IntN(29), limit: 1 + chance.IntN(9), failing: -1}
		b := someBytes(chance, m.size*chance.IntN(m.limit+1))
		for p := range slices.Chunk(b, m.size) {
			m.good = append(m.good, slices.Clone(p))
		}
		d, e := disk.From(b, m.size, m.limit)
		wantErr(t, "From", e, api.OK)
		for range 150 {
			step(t, chance, d, m)
			wantState(t, "a step", d, len(m.good), len(m.loose), m.calls)
		}
		d.Fail(-1)
		for i := range m.good {
			wantPage(t, "at last", d, i, m.now(i))
		}
		d.Crash(nil)
		for i := range m.good {
			wantPage(t, "at last, for good", d, i, m.good[i])
		}
		if t.Failed() {
			return
		}
	}
}
