package bin_test

import (
	"fmt"
	"math/rand/v2"
	"slices"
	"strings"
	"testing"

	"rubricator/api"
	"rubricator/bin"
	"rubricator/json"
	"rubricator/num"
)

// P16.2

func TestP162Examples(t *testing.T) {
	wantPut(t, array(boolean(true)), []byte{5, 1, 2})
}

func TestP162Bytes(t *testing.T) {
	for _, x := range []struct {
		v    json.Value
		want []byte
	}{
		{json.Value{}, []byte{0}}, {boolean(false), []byte{1}}, {boolean(true), []byte{2}},
		{number("0"), []byte("\x03\x010")}, {number("-0"), []byte("\x03\x010")}, {number("7"), []byte("\x03\x017")}, {number("-1"), []byte("\x03\x02-1")}, {number("15"), []byte("\x03\x0215")}, {number("1500"), []byte("\x03\x0415e2")}, {number("-0.250"), []byte("\x03\x06-25e-2")}, {number("1e-999"), []byte("\x03\x061e-999")},
		{number("-" + figures(40) + "e-999"), []byte("\x03\x2e-" + figures(40) + "e-999")},
		{text(""), []byte{4, 0}}, {text("a"), []byte("\x04\x01a")}, {text("ab"), []byte("\x04\x02ab")}, {text("\"\\\n\x00"), []byte("\x04\x04\"\\\n\x00")}, {text("\u00e9"), []byte{4, 2, 0xc3, 0xa9}}, {text("\U0001f600"), []byte{4, 4, 0xf0, 0x9f, 0x98, 0x80}},
		{array(), []byte{5, 0}}, {array(json.Value{}), []byte{5, 1, 0}}, {array(boolean(false), boolean(true), json.Value{}), []byte{5, 3, 1, 2, 0}}, {array(array()), []byte{5, 1, 5, 0}}, {array(object(), array(number("1"))), []byte("\x05\x02\x06\x00\x05\x01\x03\x011")}, {array(text("x"), text("")), []byte("\x05\x02\x04\x01x\x04\x00")},
		{object(), []byte{6, 0}}, {object("", json.Value{}), []byte{6, 1, 0, 0}}, {object("a", number("1")), []byte("\x06\x01\x01a\x03\x011")}, {object("a", boolean(true), "bc", text("d")), []byte("\x06\x02\x01a\x02\x02bc\x04\x01d")}, {object("a", object("b", array())), []byte("\x06\x01\x01a\x06\x01\x01b\x05\x00")}, {object("\u00e9", object()), []byte("\x06\x01\x02\xc3\xa9\x06\x00")},
		{array(object("a", array(object("b", array())))), []byte("\x05\x01\x06\x01\x01a\x05\x01\x06\x01\x01b\x05\x00")},
	} {
		all := aroundBytes(x.want)
		for i, v := range around(x.v) {
			wantPut(t, v, all[i])
		}
	}
}

func TestP162LongOnes(t *testing.T) {
	for _, x := range []struct {
		n    int
		want []byte
	}{{1, []byte{1}}, {2, []byte{2}}, {126, []byte{126}}, {127, []byte{127}}, {128, []byte{129, 0}}, {129, []byte{129, 1}}, {255, []byte{129, 127}}, {256, []byte{130, 0}}, {300, []byte{130, 44}}, {16383, []byte{255, 127}}, {16384, []byte{129, 128, 0}}} {
		s := strings.Repeat("s", x.n)
		wantPut(t, text(s), join([]byte{4}, x.want, []byte(s)))
		wantPut(t, object(s, boolean(true)), join([]byte{6, 1}, x.want, []byte(s), []byte{2}))
		wantPut(t, object("a", text(s), s, text(s)), join([]byte("\x06\x02\x01a\x04"), x.want, []byte(s), x.want, []byte(s), []byte{4}, x.want, []byte(s)))
		wantPut(t, array(slices.Repeat([]json.Value{boolean(true)}, x.n)...), join([]byte{5}, x.want, slices.Repeat([]byte{2}, x.n)))
		wantPut(t, array(slices.Repeat([]json.Value{array()}, x.n)...), join([]byte{5}, x.want, slices.Repeat([]byte{5, 0}, x.n)))
		v, want := object(), join([]byte{6}, x.want)
		for i := range x.n {
			name := fmt.Sprintf("%05d", i)
			v.Names, v.Items = append(v.Names, name), append(v.Items, number("7"))
			want = append(want, "\x05"+name+"\x03\x017"...)
		}
		wantPut(t, v, want)
	}
	for _, v := range longOnes() {
		wantPut(t, v, putAsTold(v))
	}
	wide := array()
	for i := range 200000 {
		wide.Items = append(wide.Items, number(fmt.Sprint(i)))
	}
	wantPut(t, wide, putAsTold(wide))
	s := strings.Repeat("\u20ac", 1<<20)
	wantPut(t, text(s), putAsTold(text(s)))
}

func TestP162PutOfWhatIsNotRight(t *testing.T) {
	for _, v := range wrongOnes() {
		wantWrong(t, v)
		wantWrong(t, array(number("1"), v))
	}
	wantWrong(t, nest(array(), 16))
	wantWrong(t, nest(number("1"), 17))
}

func TestP162GetOfNothing(t *testing.T) {
	wantRefused(t, nil)
	wantRefused(t, []byte{})
}

func TestP162GetOfEachFirstByte(t *testing.T) {
	for c := range 256 {
		b := []byte{byte(c)}
		if c > 2 {
			wantRefused(t, b)
		} else {
			wantPut(t, []json.Value{{}, boolean(false), boolean(true)}[c], b)
		}
		for _, rest := range []string{"", "\x00", "\x01", "\x011", "\x01a", "\x01\x00", "\x01\x00\x00", "\x01a\x00", "\x02\x00\x01"} {
			b := append([]byte{byte(c)}, rest...)
			if is := wantAsTold(t, b); is && c > 6 {
				t.Errorf("%s: the test itself is wrong", showBytes(b))
			}
			for _, b := range aroundBytes(b) {
				wantAsTold(t, b)
			}
		}
	}
}

// Bytes that end too early, at each place, and bytes that go on.
func TestP162GetOfBytesThatEndOrGoOn(t *testing.T) {
	for _, v := range append(rightOnes(), longOnes()[:8]...) {
		for _, w := range around(v) {
			b := putAsTold(w)
			for n := range b {
				if len(b) < 200 || n < 10 || n > len(b)-10 || n%17 == 0 {
					wantRefused(t, b[:n])
				}
			}
			for _, c := range []byte{0, 1, 2, 3, 4, 5, 6, 7, 127, 128, 255} {
				wantRefused(t, append(slices.Clone(b), c))
			}
			wantRefused(t, append(slices.Clone(b), b...))
		}
	}
}

// longer are numbers as they are put, but in more bytes than need be, or in such as no number below 2^64 has.
func longer(n int) [][]byte {
	b := varAsTold(n)
	var l [][]byte
	for i := range 12 {
		l = append(l, join(slices.Repeat([]byte{128}, i+1), b))
	}
	return append(l, join(slices.Repeat([]byte{255}, 9), b), join(slices.Repeat([]byte{255}, 20), b), join([]byte{130}, slices.Repeat([]byte{128}, 8), b), slices.Repeat([]byte{128}, 10), slices.Repeat([]byte{255}, 10))
}

func TestP162GetOfLengthsAndCountsInMoreBytes(t *testing.T) {
	one := []byte("\x03\x011")
	for _, n := range []int{0, 1, 2, 10, 127, 128, 129, 300} {
		s := strings.Repeat("7", n)
		for _, x := range longer(n) {
			all := [][]byte{join([]byte{4}, x, []byte(s)), join([]byte{5}, x, slices.Repeat([]byte{2}, n)), join([]byte{6, 1}, x, []byte(s), []byte{2}), join([]byte("\x06\x02\x00\x00"), x, []byte(s), []byte{2})}
			if n > 0 && n <= 40 {
				all = append(all, join([]byte{3}, x, []byte(s)))
			}
			if n == 1 {
				all = append(all, join([]byte{6}, x, []byte("\x01a\x00")))
			}
			if n == 0 {
				all = append(all, join([]byte{6}, x))
			}
			for _, b := range all {
				for _, c := range append(aroundBytes(b), join(b, one)) {
					wantRefused(t, c)
				}
			}
		}
	}
}

// Lengths and counts of more than follows, also far more: each answers at once.
func TestP162GetOfLengthsAndCountsThatAreTooGreat(t *testing.T) {
	greats := [][]byte{varAsTold(100), varAsTold(127), varAsTold(128), varAsTold(300), varAsTold(1 << 20), varAsTold(1<<31 - 1), varAsTold(1 << 31), varAsTold(1 << 32), varAsTold(1 << 40), varAsTold(1 << 62), varAsTold(1<<63 - 1),
		{129, 128, 128, 128, 128, 128, 128, 128, 128, 0}, {129, 128, 128, 128, 128, 128, 128, 128, 128, 1}, {129, 255, 255, 255, 255, 255, 255, 255, 255, 127}, {129, 255, 255, 255, 255, 255, 255, 255, 255, 126}}
	for _, x := range greats {
		for mark := range byte(8) {
			for _, rest := range []string{"", "7", "\x00", "\x00\x00", "\x02\x02\x02", "\x01a\x00", "1234567", "\x00\x00\x01a\x00\x01b\x00"} {
				for _, b := range aroundBytes(join([]byte{mark}, x, []byte(rest))) {
					if mark > 2 {
						wantRefused(t, b)
					}
				}
				wantRefused(t, join([]byte{6, 1}, x, []byte(rest)))
				wantRefused(t, join([]byte("\x06\x02\x00\x00"), x, []byte(rest)))
			}
		}
	}
	// One more, and one fewer.
	for _, v := range append(rightOnes(), longOnes()...) {
		for _, more := range []int{-1, 1} {
			n := map[int]int{json.String: len(v.Text), json.Array: len(v.Items), json.Object: len(v.Items)}[v.Kind]
			if v.Kind >= json.String && n+more >= 0 {
				b := putAsTold(v)
				wantRefused(t, join(b[:1], varAsTold(n+more), b[1+len(varAsTold(n)):]))
			}
		}
	}
}

func TestP162GetOfNumbers(t *testing.T) {
	for s, want := range map[string]bool{"0": true, "-0": false, "": false, "-": false, "00": false, "01": false, "1": true, "+1": false, "-1": true, " 1": false, "1 ": false, "1.0": false, "1.5": false, "15e-1": true, "15E-1": false, "15e+1": false, "15e1": true, "15e01": false, "15e0": false, "15e-0": false, "150": false, "1e0": false, "10": false, "1e1": true, "0e0": false, "0e1": false, "0.0": false, "100e-2": false, "1e": false, "e1": false, "1e999": true, "1e1000": false, "1e-999": true, "1e-1000": false, "10e998": false, "1e99999999999999999999": false, "x": false, "1x": false, "null": false, "\x00": false, "1\x00": false, "\xff": false, "\u0661": false, "0x1": false, "1_1": false, "Inf": false, "NaN": false,
		figures(40): true, figures(41): false, "-" + figures(40) + "e-999": true, figures(40) + "e999": true, figures(40) + "e1000": false, figures(39) + "0": false, strings.Repeat("1", 127): false, strings.Repeat("1", 128): false, strings.Repeat("0", 128): false, "1" + strings.Repeat("0", 200): false, "0." + strings.Repeat("0", 200) + "1": false} {
		b := append([]byte{3}, bytesAsTold(s)...)
		if n, e := num.Parse(s); (e == api.OK && num.Text(n) == s) != want {
			t.Errorf("%s: the test itself is wrong", s)
		}
		for _, c := range aroundBytes(b) {
			if want {
				wantAsTold(t, c)
			} else {
				wantRefused(t, c)
			}
		}
		if want {
			wantPut(t, number(s), b)
		}
	}
	// All texts of up to four such signs.
	letters := "0019-+.eE5"
	for i := range 10000 {
		for n := range 5 {
			s := fmt.Sprintf("%04d", i)[:n]
			b := []byte(s)
			for k := range b {
				b[k] = letters[b[k]-'0']
			}
			wantAsTold(t, append([]byte{3}, bytesAsTold(string(b))...))
		}
	}
}

func TestP162GetOfNoUTF8(t *testing.T) {
	for _, s := range noUTF8Within() {
		for _, b := range [][]byte{append([]byte{4}, bytesAsTold(s)...), join([]byte{6, 1}, bytesAsTold(s), []byte{0}), join([]byte("\x06\x02\x00\x00"), bytesAsTold(s), []byte{0}), join([]byte{3}, bytesAsTold(s))} {
			for _, c := range aroundBytes(b) {
				wantRefused(t, c)
			}
		}
	}
	for a := range 256 {
		for b := range 256 {
			s := string([]byte{byte(a), byte(b)})
			wantAsTold(t, append([]byte{4}, bytesAsTold(s)...))
			wantAsTold(t, join([]byte{6, 1}, bytesAsTold(s), []byte{0}))
			for _, x := range []string{"\xe2" + s, "\xed" + s, "\xe0" + s, "\xef" + s, "\xf0\x9f" + s, "\xf4" + s + "\x80", "\xf0" + s + "\x80", "\xc3" + s} {
				wantAsTold(t, append([]byte{4}, bytesAsTold(x)...))
			}
		}
	}
}

func TestP162GetOfNamesThatDoNotRise(t *testing.T) {
	for _, v := range wrongNames() {
		n := min(len(v.Names), len(v.Items))
		b := join([]byte{6}, varAsTold(n))
		for i := range n {
			b = join(b, bytesAsTold(v.Names[i]), []byte{2})
		}
		for _, c := range aroundBytes(b) {
			wantAsTold(t, c)
		}
		if !slices.Equal(v.Names[:n], rising(v.Names[:n])) {
			wantRefused(t, b)
		}
	}
	// Names of a row of objects stand alone.
	wantPut(t, array(object("b", json.Value{}), object("a", json.Value{}), object("a", json.Value{})), []byte("\x05\x03\x06\x01\x01b\x00\x06\x01\x01a\x00\x06\x01\x01a\x00"))
	wantPut(t, object("a", object("b", json.Value{}), "b", object("a", json.Value{})), []byte("\x06\x02\x01a\x06\x01\x01b\x00\x01b\x06\x01\x01a\x00"))
}

func TestP162GetOfDeepOnes(t *testing.T) {
	one := []byte("\x03\x011")
	for deep := range 40 {
		for _, row := range [][]byte{{5, 1}, []byte("\x06\x01\x01a"), {5, 1, 6, 1, 0}} {
			for _, end := range [][]byte{one, {0}, {5, 0}, {6, 0}} {
				b := slices.Clone(end)
				for i := deep; i > 0; i-- {
					b = join(row, b)
				}
				n := deep * (1 + len(row)/5)
				if end[0] == 5 || end[0] == 6 {
					n++
				}
				if is := wantAsTold(t, b); is != (n <= 16) {
					t.Errorf("%d deep: %v", n, is)
				}
			}
		}
	}
	// What was closed is open no more, and what is too deep is so behind other Items, too.
	deepest, tooDeep := putAsTold(nest(array(), 15)), putAsTold(nest(array(), 16))
	for _, b := range [][]byte{deepest, putAsTold(nest(array(), 14)), putAsTold(nest(number("1"), 15)), putAsTold(array(nest(array(), 14), nest(object(), 14), nest(array(), 14)))} {
		wantAsTold(t, b)
		for _, c := range aroundBytes(b) {
			wantAsTold(t, c)
		}
	}
	wantRefused(t, tooDeep)
	for _, deep := range []int{1000, 1 << 16, 1 << 20} {
		wantRefused(t, append(slices.Repeat([]byte{5, 1}, deep), 0))
		wantRefused(t, append(slices.Repeat([]byte{6, 1, 0}, deep), 0))
		wantRefused(t, slices.Repeat([]byte{5, 1}, deep))
	}
	wide := array(slices.Repeat([]json.Value{nest(array(), 14)}, 1000)...)
	wantPut(t, wide, putAsTold(wide))
}

// All rows of up to six bytes of a few.
func TestP162GetOfEachRowOfBytes(t *testing.T) {
	rights := 0
	for letters, most := range map[string]int{"\x00\x01\x02\x05\x06\x03\x30a": 6, "\x01\x02\x04\x06a\x80\xc3\xa9": 6, "\x03\x04\x05\x06\x00\x01\x02\x07\x080-1e\x7f\x80\xff": 4} {
		rows := [][]byte{nil}
		for range most {
			var next [][]byte
			for _, row := range rows {
				for _, c := range []byte(letters) {
					b := append(slices.Clone(row), c)
					if wantAsTold(t, b) {
						rights++
					}
					if c := b[0]; c > 2 && c < 7 {
						next = append(next, b)
					}
				}
			}
			rows = next
		}
	}
	for mark := byte(3); mark < 7; mark++ {
		for a := range 256 {
			for b := range 256 {
				wantAsTold(t, []byte{mark, byte(a), byte(b)})
				wantAsTold(t, []byte{mark, 1, byte(a), byte(b)})
			}
		}
	}
	if rights < 1000 {
		t.Errorf("only %d were a value's", rights)
	}
}

// P16.3

// wantBack holds that what is put is got, and is put as the same bytes.
func wantBack(t *testing.T, v json.Value) {
	t.Helper()
	b, e := bin.Put(v)
	if e != api.OK {
		t.Errorf("Put of %s: error %d", show(v), e)
		return
	}
	got, e := bin.Get(b)
	if e != api.OK || !same(got, v) || json.Text(got) != json.Text(v) {
		t.Errorf("%s was put; got: %s, error %d", show(v), show(got), e)
	}
	if again, e := bin.Put(got); e != api.OK || string(again) != string(b) {
		t.Errorf("%s: %s, then %s, error %d", show(v), showBytes(b), showBytes(again), e)
	}
}

func TestP163WhatIsPutIsGot(t *testing.T) {
	for _, v := range rightOnes() {
		for _, w := range around(v) {
			wantBack(t, w)
		}
	}
	for _, v := range longOnes() {
		wantBack(t, v)
	}
	for deep := range 17 {
		wantBack(t, nest(text("x"), deep))
	}
	chance := rand.New(rand.NewPCG(16, 4))
	for range 50000 {
		v := someValue(chance, chance.IntN(7))
		wantBack(t, v)
		// So is what a text tells.
		if s := json.Text(v); len(s) <= api.MaxText {
			w, e := json.Parse(s)
			if e != api.OK {
				t.Fatalf("%s: error %d", show(v), e)
			}
			wantPut(t, w, putAsTold(v))
		}
	}
}

// Two values are put as the same bytes just if they are alike.
func TestP163AlikeAndBytes(t *testing.T) {
	chance := rand.New(rand.NewPCG(16, 5))
	alike := 0
	for range 100000 {
		v, w := someValue(chance, 2), someValue(chance, 2)
		a, _ := bin.Put(v)
		b, _ := bin.Put(w)
		is := json.Compare(v, w) == 0
		if is {
			alike++
		}
		if (string(a) == string(b)) != is {
			t.Errorf("%s, %s: alike, or not", show(v), show(w))
		}
	}
	if alike < 1000 {
		t.Errorf("only %d times alike", alike)
	}
}

// Bytes of a value with one of them another, one more, or one fewer.
func TestP163OneByteAnother(t *testing.T) {
	rights := 0
	for _, v := range rightOnes() {
		for _, b := range [][]byte{putAsTold(v), putAsTold(array(number("1"), v)), putAsTold(object("a", v, "b", v))} {
			if len(b) > 40 {
				continue
			}
			for i := range b {
				wantAsTold(t, slices.Delete(slices.Clone(b), i, i+1))
				for c := range 256 {
					x := slices.Clone(b)
					x[i] = byte(c)
					if wantAsTold(t, x) {
						rights++
					}
					if c < 8 || c > 250 || c == 128 || c == 'a' || c == '0' {
						wantAsTold(t, slices.Insert(slices.Clone(b), i, byte(c)))
					}
				}
			}
		}
	}
	if rights < 5000 {
		t.Errorf("only %d were a value's", rights)
	}
}

func TestP163BytesByChance(t *testing.T) {
	chance := rand.New(rand.NewPCG(16, 6))
	rights := 0
	for range 100000 {
		b := putAsTold(someValue(chance, 4))
		for range chance.IntN(3) {
			i := chance.IntN(len(b))
			switch chance.IntN(4) {
			case 0:
				b[i] = byte(chance.IntN(256))
			case 1:
				b[i] ^= 1 << chance.IntN(8)
			case 2:
				b = slices.Insert(b, i, byte(chance.IntN(8)))
			case 3:
				if len(b) > 1 {
					b = slices.Delete(b, i, i+1)
				}
			}
		}
		if wantAsTold(t, b) {
			rights++
		}
	}
	if rights < 25000 || rights > 95000 {
		t.Errorf("%d were a value's", rights)
	}
	for range 100000 {
		b := make([]byte, chance.IntN(12))
		for i := range b {
			b[i] = some(chance, 0, 1, 2, 3, 4, 5, 6, '1', 'a', byte(chance.IntN(256)))
		}
		wantAsTold(t, b)
	}
}

// P16.2: the bytes that are handed in don't change, nor what is behind them, and what is told keeps none of them.
func TestP162KeepsNothing(t *testing.T) {
	chance := rand.New(rand.NewPCG(16, 7))
	for range 5000 {
		v := someValue(chance, 4)
		want := putAsTold(v)
		room := append(slices.Clone(want), "room behind"...)
		b := room[:len(want)]
		got, e := bin.Get(b)
		if e != api.OK || string(room) != string(want)+"room behind" {
			t.Fatalf("Get of %s: error %d, and then it is %s", showBytes(want), e, showBytes(room))
		}
		bin.Get(b[:len(b)/2])
		if string(room) != string(want)+"room behind" {
			t.Fatalf("%s was changed: %s", showBytes(want), showBytes(room))
		}
		for i := range room {
			room[i] ^= 0x55
		}
		if !same(got, v) {
			t.Fatalf("%s became %s", show(v), show(got))
		}
	}
}

// What is put is new memory each time: whoever changes it, or the value's lists, changes nothing else.
func TestP162NewMemory(t *testing.T) {
	for _, v := range rightOnes() {
		want := putAsTold(v)
		a, _ := bin.Put(v)
		b, _ := bin.Put(v)
		a = a[:cap(a)]
		for i := range a {
			a[i] ^= 0x55
		}
		if string(b) != string(want) {
			t.Errorf("%s: %s, want %s", show(v), showBytes(b), showBytes(want))
		}
		wantPut(t, v, want)
	}
	v := array(text("a"), array(number("1")), object("a", number("2")))
	b, _ := bin.Put(v)
	want := slices.Clone(b)
	v.Items[0], v.Items[1].Items[0], v.Items[2].Names[0] = json.Value{}, json.Value{}, "x"
	if string(b) != string(want) {
		t.Errorf("%s became %s", showBytes(want), showBytes(b))
	}
}

// No two lists of what is got share any memory, with what stands behind them neither; nor do two answers.
func TestP162GetsNewLists(t *testing.T) {
	chance := rand.New(rand.NewPCG(16, 8))
	for range 3000 {
		v := someValue(chance, 5)
		b := putAsTold(v)
		got, _ := bin.Get(b)
		other, _ := bin.Get(b)
		fillRoom(got)
		if !same(got, v) {
			t.Fatalf("%s became %s", show(v), show(got))
		}
		spoilAll(got)
		if !same(other, v) {
			t.Fatalf("%s became %s", show(v), show(other))
		}
		wantPut(t, v, b)
	}
}

// fillRoom writes to what is behind each list.
func fillRoom(v json.Value) {
	items, names := v.Items[len(v.Items):cap(v.Items)], v.Names[len(v.Names):cap(v.Names)]
	for i := range items {
		items[i] = text("room")
	}
	for i := range names {
		names[i] = "room"
	}
	for _, x := range v.Items {
		fillRoom(x)
	}
}

func spoilAll(v json.Value) {
	for i, x := range v.Items {
		spoilAll(x)
		v.Items[i] = text("spoiled")
	}
	for i := range v.Names {
		v.Names[i] = "spoiled"
	}
}
