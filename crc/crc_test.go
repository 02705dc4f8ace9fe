package crc_test

import (
	"bytes"
	"hash/crc32"
	"math/rand/v2"
	"slices"
	"testing"

	"rubricator/crc"
)

// asTold is a sum of rows made bit by bit, as the chapter says it.
func asTold(l ...[]byte) uint32 {
	x := uint32(4294967295)
	for _, b := range bytes.Join(l, nil) {
		x ^= uint32(b)
		for range 8 {
			low := x & 1
			x >>= 1
			if low == 1 {
				x ^= 3988292384
			}
		}
	}
	return x ^ 4294967295
}

func wantSum(t *testing.T, what string, got, want uint32) {
	t.Helper()
	if got != want {
		t.Errorf("%q: got %d, want %d", what, got, want)
	}
}

func someBytes(chance *rand.Rand, n int) []byte {
	b := make([]byte, n)
	for i := range b {
		b[i] = byte(chance.Uint32())
	}
	return b
}

// turned is b with those bits turned that are 1 in x, the lowest of them at that bit of b (the lowest bit of each byte is its first).
func turned(b []byte, bit int, x uint32) []byte {
	b = slices.Clone(b)
	for i := range 32 {
		if x>>i&1 == 1 {
			b[(bit+i)/8] ^= 1 << ((bit + i) % 8)
		}
	}
	return b
}

// cut is b in rows, some of them empty or nil.
func cut(chance *rand.Rand, b []byte) [][]byte {
	var l [][]byte
	for len(b) > 0 {
		n := chance.IntN(min(len(b), 9) + 1)
		l = append(l, b[:n], nil)
		b = b[n:]
	}
	return append(l, []byte{})
}

func TestP21Examples(t *testing.T) {
	wantSum(t, "the chapter's", crc.Of([]byte("123456789")), 3421780262)
	for _, x := range []struct {
		text string
		want uint32
	}{
		{"", 0},
		{"\x00", 3523407757},
		{"\xff", 4278190080},
		{"a", 3904355907},
		{"abc", 891568578},
		{"\x00\x00\x00\x00", 558161692},
		{"\xff\xff\xff\xff", 4294967295},
		{"The quick brown fox jumps over the lazy dog", 1095738169},
	} {
		wantSum(t, x.text, crc.Of([]byte(x.text)), x.want)
	}
}

func TestP21NoBytes(t *testing.T) {
	wantSum(t, "no row", crc.Of(), 0)
	wantSum(t, "no row, as a list that is nil", crc.Of([][]byte(nil)...), 0)
	wantSum(t, "no row, as a list that is empty", crc.Of([][]byte{}...), 0)
	wantSum(t, "a row that is nil", crc.Of(nil), 0)
	wantSum(t, "a row that is empty", crc.Of([]byte{}), 0)
	wantSum(t, "rows without bytes", crc.Of(nil, []byte{}, nil, []byte{}), 0)
}

func TestP21EachByte(t *testing.T) {
	for c := range 256 {
		for _, ahead := range [][]byte{nil, {0}, {255}, []byte("ahead")} {
			b := append(slices.Clone(ahead), byte(c))
			wantSum(t, "a byte", crc.Of(b), asTold(b))
			wantSum(t, "a byte of a row of its own", crc.Of(ahead, []byte{byte(c)}), asTold(b))
			wantSum(t, "a byte and others behind it", crc.Of(b, []byte("behind")), asTold(b, []byte("behind")))
		}
	}
}

func TestP21AsToldAndAsEthernetHasIt(t *testing.T) {
	chance := rand.New(rand.NewPCG(2, 1))
	for n := range 300 {
		b := someBytes(chance, n)
		wantSum(t, "as it is told", crc.Of(b), asTold(b))
		wantSum(t, "as Ethernet has it", crc.Of(b), crc32.ChecksumIEEE(b))
	}
	for _, c := range []byte{0, 1, 128, 255} {
		for _, n := range []int{127, 128, 512, 4096, 70000} {
			b := bytes.Repeat([]byte{c}, n)
			wantSum(t, "many bytes that are one", crc.Of(b), crc32.ChecksumIEEE(b))
		}
	}
}

func TestP21OneRowCutIntoMany(t *testing.T) {
	b := []byte("123456789")
	for i := range len(b) + 1 {
		for k := i; k <= len(b); k++ {
			wantSum(t, "three rows", crc.Of(b[:i], b[i:k], b[k:]), 3421780262)
		}
	}
	var each [][]byte
	for i := range b {
		each = append(each, nil, b[i:i+1], []byte{})
	}
	wantSum(t, "a row for each byte, and rows without any", crc.Of(each...), 3421780262)
	chance := rand.New(rand.NewPCG(2, 2))
	for range 200 {
		b = someBytes(chance, chance.IntN(200))
		wantSum(t, "rows by chance", crc.Of(cut(chance, b)...), asTold(b))
	}
}

func TestP21InOrder(t *testing.T) {
	a, b := []byte("ab"), []byte("cd")
	wantSum(t, "rows in order", crc.Of(a, b), asTold([]byte("abcd")))
	wantSum(t, "rows the other way round", crc.Of(b, a), asTold([]byte("cdab")))
	if crc.Of(a, b) == crc.Of(b, a) {
		t.Error("the order of rows is not told")
	}
	wantSum(t, "a row twice", crc.Of(a, a), asTold([]byte("abab")))
}

func TestP21ChangesAndKeepsNothing(t *testing.T) {
	l := [][]byte{[]byte("12345"), nil, []byte("6789")}
	for range 3 {
		wantSum(t, "again", crc.Of(l...), 3421780262)
	}
	if len(l) != 3 || string(l[0]) != "12345" || l[1] != nil || string(l[2]) != "6789" {
		t.Errorf("what was handed in is now %q", l)
	}
	l[0][0] = '0'
	wantSum(t, "of rows that were changed", crc.Of(l...), asTold([]byte("023456789")))
}

func TestP22ShortDifferences(t *testing.T) {
	b := []byte("any bytes")
	sum := crc.Of(b)
	for bit := range 8*len(b) - 31 {
		for x := uint32(1); x < 1<<12; x += 2 {
			if crc.Of(turned(b, bit, x)) == sum {
				t.Fatalf("bits %b from %d on make no difference", x, bit)
			}
		}
	}
}

func TestP22DifferencesByChance(t *testing.T) {
	chance := rand.New(rand.NewPCG(2, 3))
	for range 50000 {
		b := someBytes(chance, 4+chance.IntN(60))
		bit := chance.IntN(8*len(b) - 31)
		x := chance.Uint32() | 1
		other := turned(b, bit, x)
		if crc.Of(b) == crc.Of(other) {
			t.Fatalf("%v and %v have one sum", b, other)
		}
		if crc.Of(cut(chance, b)...) == crc.Of(cut(chance, other)...) {
			t.Fatalf("%v and %v have one sum, in rows", b, other)
		}
	}
}

func TestP22WholeDifferences(t *testing.T) {
	chance := rand.New(rand.NewPCG(2, 4))
	for _, n := range []int{4, 5, 8, 128, 512, 4096} {
		b := someBytes(chance, n)
		for bit := 0; bit <= 8*n-32; bit += 1 + n/16 {
			for _, x := range []uint32{4294967295, 2147483649, 1, 1 << 31, 3988292384, 79764919} {
				if crc.Of(turned(b, bit, x)) == crc.Of(b) {
					t.Errorf("bits %b from %d on, of %d bytes, make no difference", x, bit, n)
				}
			}
		}
	}
}

// A difference of sums is the xor of what its bits do, each for itself: so all 2^32 differences at a place are told apart if what the 32 bits there do is 32 ways that none can be made of the others.
func TestP22AllDifferencesOf32Bits(t *testing.T) {
	for _, n := range []int{4, 5, 9, 64} {
		b := make([]byte, n)
		sum := crc.Of(b)
		for bit := range 8*n - 31 {
			var ways [32]uint32 // each one that is kept stands at its highest bit
			for i := range 32 {
				if !addWay(&ways, crc.Of(turned(b, bit, 1<<i))^sum) {
					t.Fatalf("%d bytes: bits from %d on: what bit %d does is what those ahead do", n, bit, i)
				}
			}
		}
	}
	chance := rand.New(rand.NewPCG(2, 5))
	for range 2000 {
		a := someBytes(chance, chance.IntN(80))
		b, c, all := someBytes(chance, len(a)), someBytes(chance, len(a)), make([]byte, len(a))
		for i := range all {
			all[i] = a[i] ^ b[i] ^ c[i]
		}
		wantSum(t, "three xored", crc.Of(all), crc.Of(a)^crc.Of(b)^crc.Of(c))
	}
}

// addWay keeps x among ways, if it can't be made of those that are there.
func addWay(ways *[32]uint32, x uint32) bool {
	for i := 31; i >= 0; i-- {
		if x>>i&1 == 0 {
			continue
		}
		if ways[i] == 0 {
			ways[i] = x
			return true
		}
		x ^= ways[i]
	}
	return false
}
