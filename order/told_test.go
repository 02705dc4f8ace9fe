package order_test

import (
	"bytes"
	"fmt"
	"math/big"
	"math/rand/v2"
	"slices"
	"strconv"
	"strings"
	"testing"

	"rubricator/api"
	"rubricator/bin"
	"rubricator/json"
	"rubricator/num"
	"rubricator/order"
)

// The words of the chapter, told again, by numbers that become bytes at the end.

func keyAsTold(v json.Value) []byte {
	switch v.Kind {
	case json.Null:
		return []byte{1}
	case json.Bool:
		return map[bool][]byte{false: {2}, true: {3}}[v.Is]
	case json.Number:
		return bytesOf(append([]int{4}, numberAsTold(v.Num)...))
	case json.String:
		return bytesOf(append([]int{5}, stringAsTold(v.Text)...))
	}
	panic("the test itself is wrong")
}

func numberAsTold(n num.Num) []int {
	if n == (num.Num{}) {
		return []int{1}
	}
	height := len(n.Digits) + n.Exp + 2000
	l := []int{height / 256, height % 256}
	for _, digit := range strings.Split(n.Digits, "") {
		x, err := strconv.Atoi(digit)
		if err != nil {
			panic("the test itself is wrong")
		}
		l = append(l, x+1)
	}
	l = append(l, 0)
	if !n.Down {
		return append([]int{2}, l...)
	}
	for i, x := range l {
		l[i] = 255 - x
	}
	return append([]int{0}, l...)
}

func stringAsTold(s string) []int {
	var l []int
	for i := range len(s) {
		l = append(l, int(s[i]))
		if s[i] == 0 {
			l = append(l, 255)
		}
	}
	return append(l, 0, 0)
}

func bytesOf(l []int) []byte {
	b := make([]byte, len(l))
	for i, x := range l {
		if x < 0 || x > 255 {
			panic("the test itself is wrong")
		}
		b[i] = byte(x)
	}
	return b
}

// kindAsTold is what a value's Kind tells.
func kindAsTold(v json.Value) [2]byte {
	told := map[int][2]byte{json.Null: {1, 2}, json.Bool: {2, 4}, json.Number: {4, 5}, json.String: {5, 6}}
	if x, is := told[v.Kind]; is {
		return x
	}
	return [2]byte{6, 7}
}

// compareAsTold is what chapter 15 tells of two that are no array and no object.
func compareAsTold(a, b json.Value) int {
	switch {
	case a.Kind != b.Kind:
		return big.NewInt(int64(a.Kind)).Cmp(big.NewInt(int64(b.Kind)))
	case a.Kind == json.Bool:
		return strings.Compare(fmt.Sprint(a.Is), fmt.Sprint(b.Is))
	case a.Kind == json.Number:
		return whole(a.Num).Cmp(whole(b.Num))
	}
	return strings.Compare(a.Text, b.Text)
}

// whole is a number times 10 to the power of 999.
func whole(n num.Num) *big.Int {
	x, ok := new(big.Int).SetString("0"+n.Digits, 10)
	if !ok {
		panic("the test itself is wrong")
	}
	if n.Down {
		x.Neg(x)
	}
	return x.Mul(x, new(big.Int).Exp(big.NewInt(10), big.NewInt(int64(n.Exp+999)), nil))
}

// What the tests are made of.

// wantKey wants just these bytes of a value, which lie within what Kind tells.
func wantKey(t *testing.T, v json.Value, want ...byte) {
	t.Helper()
	b, e := order.Key(v)
	if e != api.OK || !bytes.Equal(b, want) {
		t.Errorf("Key of %s: %s, error %d, want %s", show(v), brief(b), e, brief(want))
	}
	if !bin.Right(v) || !bytes.Equal(keyAsTold(v), want) {
		t.Errorf("%s: the test itself is wrong", show(v))
	}
	wantWithin(t, v, b)
}

func wantAsTold(t *testing.T, v json.Value) {
	t.Helper()
	wantKey(t, v, keyAsTold(v)...)
}

// wantType wants no Key, but the error.
func wantType(t *testing.T, v json.Value) {
	t.Helper()
	if b, e := order.Key(v); b != nil || e != api.ErrType {
		t.Errorf("Key of %s: %s, error %d", show(v), brief(b), e)
	}
}

func wantKind(t *testing.T, v json.Value, first, behind byte) {
	t.Helper()
	if x, y := order.Kind(v); x != first || y != behind {
		t.Errorf("Kind of %s: %d, %d, want %d, %d", show(v), x, y, first, behind)
	}
	if kindAsTold(v) != [2]byte{first, behind} {
		t.Errorf("%s: the test itself is wrong", show(v))
	}
}

// wantWithin holds a Key against what Kind tells of its value, and against what it tells of values of each other Kind.
func wantWithin(t *testing.T, v json.Value, key []byte) {
	t.Helper()
	for kind := range 6 {
		first, behind := order.Kind(json.Value{Kind: kind})
		within := bytes.Compare([]byte{first}, key) <= 0 && bytes.Compare(key, []byte{behind}) < 0
		if within != (kind == v.Kind) {
			t.Errorf("Key of %s, from %d to %d of Kind %d: %v", show(v), first, behind, kind, within)
		}
	}
}

// wantStand holds two against each other by their Keys, either way round.
func wantStand(t *testing.T, v, w json.Value) {
	t.Helper()
	want := json.Compare(v, w)
	if compareAsTold(v, w) != want {
		t.Errorf("%s and %s: the test itself is wrong", show(v), show(w))
	}
	a, _ := order.Key(v)
	b, _ := order.Key(w)
	if x, y := bytes.Compare(a, b), bytes.Compare(b, a); x != want || y != -want {
		t.Errorf("Keys of %s and %s: %d, %d, want %d (%s, %s)", show(v), show(w), x, y, want, brief(a), brief(b))
	}
	if want != 0 && (bytes.HasPrefix(a, b) || bytes.HasPrefix(b, a)) {
		t.Errorf("Keys of %s and %s: one begins the other (%s, %s)", show(v), show(w), brief(a), brief(b))
	}
}

// wantAllStand holds each of them against each, and against itself.
func wantAllStand(t *testing.T, l []json.Value) {
	t.Helper()
	for i, v := range l {
		for _, w := range l[i:] {
			wantStand(t, v, w)
		}
	}
}

func show(v json.Value) string {
	s := fmt.Sprintf("%#v", v)
	if bin.Right(v) {
		s = json.Text(v)
	}
	if len(s) > 300 {
		return fmt.Sprintf("%s and so on, %d signs", s[:200], len(s))
	}
	return s
}

func brief(b []byte) string {
	if len(b) > 100 {
		return fmt.Sprintf("%v and so on, %d bytes", b[:100], len(b))
	}
	return fmt.Sprint(b)
}

func boolean(is bool) json.Value { return json.Value{Kind: json.Bool, Is: is} }

func text(s string) json.Value { return json.Value{Kind: json.String, Text: s} }

func array(l ...json.Value) json.Value { return json.Value{Kind: json.Array, Items: l} }

// object has names a, b, and so on.
func object(l ...json.Value) json.Value {
	v := json.Value{Kind: json.Object, Items: l}
	for i := range l {
		v.Names = append(v.Names, string(rune('a'+i)))
	}
	return v
}

func number(s string) json.Value {
	n, e := num.Parse(s)
	if e != api.OK {
		panic("the test itself is wrong: " + s)
	}
	return json.Value{Kind: json.Number, Num: n}
}

// figures are n digits, of which the first one and the last one are no noughts.
func figures(n int) string { return strings.Repeat("1020304567", n/10+1)[:n-1] + "9" }

// digitsAtEdges are such that begin one another, are next to one another, and are many.
func digitsAtEdges() []string {
	return []string{"1", "2", "5", "8", "9", "11", "12", "19", "89", "91", "98", "99", "101", "109", "111", "119", "901", "999", "1001", "1011", "1111", "9999", "10101", "123456789",
		figures(39), figures(40), strings.Repeat("1", 39), strings.Repeat("1", 40), strings.Repeat("9", 39), strings.Repeat("9", 40), "1" + strings.Repeat("0", 37) + "1", "1" + strings.Repeat("0", 38) + "1", strings.Repeat("1", 39) + "2", strings.Repeat("9", 39) + "8"}
}

// numbersAtEdges are numbers above 0 and below it, and 0: of all such digits, with Exps and heights at their edges.
func numbersAtEdges() []json.Value {
	l := []json.Value{number("0")}
	for _, digits := range digitsAtEdges() {
		var exps []int
		for _, x := range []int{-999, -998, -990, -961, -960, -959, -256, -255, -1, 0, 1, 47, 48, 49, 255, 256, 303, 304, 305, 990, 998, 999} {
			// As it is, and as what the height comes to.
			exps = append(exps, x, x-len(digits))
		}
		slices.Sort(exps)
		for _, exp := range slices.Compact(exps) {
			for _, down := range []bool{false, true} {
				n := num.Num{Down: down, Digits: digits, Exp: exp}
				if num.Right(n) {
					l = append(l, json.Value{Kind: json.Number, Num: n})
				}
			}
		}
	}
	return l
}

// rows are all rows of signs, so many at most.
func rows(most int, signs ...string) []string {
	l := []string{""}
	begin := 0
	for range most {
		end := len(l)
		for _, s := range l[begin:end] {
			for _, sign := range signs {
				l = append(l, s+sign)
			}
		}
		begin = end
	}
	return l
}

// edgeSigns are the signs whose bytes are the least and the greatest that UTF-8 has, and signs 254 and 255.
func edgeSigns() []string {
	return []string{"\x00", "\x01", "\x02", "0", "a", "\x7f", "\u0080", "\u00bf", "\u00fe", "\u00ff", "\u07ff", "\u0800", "\ud7ff", "\ue000", "\ufffd", "\uffff", "\U00010000", "\U0010ffff"}
}

func textsOf(l []string) []json.Value {
	var out []json.Value
	for _, s := range l {
		out = append(out, text(s))
	}
	return out
}

func some[T any](chance *rand.Rand, l ...T) T { return l[chance.IntN(len(l))] }

func someString(chance *rand.Rand) string {
	s := ""
	for range chance.IntN(some(chance, 2, 5, 40)) {
		s += some(chance, "\x00", "\x00", "\x01", some(chance, edgeSigns()...), string(rune(chance.IntN(0xd800))))
	}
	return s
}

func someNumber(chance *rand.Rand) json.Value {
	for {
		b := make([]byte, 1+chance.IntN(some(chance, 2, 4, 40)))
		for i := range b {
			b[i] = "0011123456789999"[chance.IntN(16)]
		}
		n := num.Num{Down: chance.IntN(2) == 0, Digits: string(b), Exp: chance.IntN(some(chance, 3, 20, 1000))}
		if chance.IntN(2) == 0 {
			n.Exp = -n.Exp
		}
		if num.Right(n) {
			return json.Value{Kind: json.Number, Num: n}
		}
	}
}

// someValue is one that has a Key; it has often the beginning of another one.
func someValue(chance *rand.Rand) json.Value {
	switch chance.IntN(12) {
	case 0:
		return some(chance, json.Value{}, boolean(false), boolean(true), number("0"), text(""))
	case 1, 2, 3, 4, 5:
		return someNumber(chance)
	}
	return text(someString(chance))
}

// near is a value that is but a little another one than v.
func near(chance *rand.Rand, v json.Value) json.Value {
	w := v
	switch v.Kind {
	case json.Number:
		switch chance.IntN(4) {
		case 0:
			w.Num.Down = !w.Num.Down
		case 1:
			w.Num.Exp += chance.IntN(3) - 1
		case 2:
			w.Num.Digits += some(chance, "1", "5", "9", "01")
			w.Num.Exp -= chance.IntN(3)
		case 3:
			b := []byte(w.Num.Digits)
			if len(b) > 0 {
				b[chance.IntN(len(b))] = byte('1' + chance.IntN(9))
			}
			w.Num.Digits = string(b)
		}
	case json.String:
		w.Text += some(chance, edgeSigns()...)
	default:
		return someValue(chance)
	}
	if !bin.Right(w) {
		return someValue(chance)
	}
	return w
}
