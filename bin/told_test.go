package bin_test

import (
	"fmt"
	"math/big"
	"math/rand/v2"
	"reflect"
	"regexp"
	"slices"
	"strings"
	"testing"

	"rubricator/api"
	"rubricator/bin"
	"rubricator/json"
	"rubricator/num"
)

// The words of the chapter, told again: a value is laid out as one row of parts, each with how deep it stands; bytes are taken for whatever they may be, and held against those of what was taken.

type part struct {
	v    json.Value
	deep int // how many arrays and objects it is within
}

func partsOf(v json.Value) []part {
	l := []part{{v, 0}}
	for i := 0; i < len(l); i++ {
		for _, x := range l[i].v.Items {
			l = append(l, part{x, l[i].deep + 1})
		}
	}
	return l
}

func deepAsTold(v json.Value) int {
	most := 0
	for _, p := range partsOf(v) {
		if p.v.Kind == json.Array || p.v.Kind == json.Object {
			most = max(most, p.deep+1)
		}
	}
	return most
}

func rightAsTold(v json.Value) bool {
	for _, p := range partsOf(v) {
		if !plainRight(p.v) {
			return false
		}
	}
	return deepAsTold(v) <= 16
}

// plainRight tells whether a value may be, whatever its Items are.
func plainRight(v json.Value) bool {
	c := json.Value{Kind: v.Kind}
	switch v.Kind {
	case 0:
	case 1:
		c.Is = v.Is
	case 2:
		c.Num = v.Num
	case 3:
		c.Text = v.Text
	case 4:
		c.Items = v.Items
	case 5:
		if len(v.Names) != len(v.Items) || !slices.Equal(v.Names, rising(v.Names)) {
			return false
		}
		c.Items, c.Names = v.Items, v.Names
	default:
		return false
	}
	for _, s := range append([]string{v.Text}, v.Names...) {
		if string([]rune(s)) != s {
			return false
		}
	}
	return same(v, c) && numRight(v.Num)
}

// rising are the names, each one once.
func rising(l []string) []string { return slices.Compact(slices.Sorted(slices.Values(l))) }

var form = regexp.MustCompile(`\A[1-9](|[0-9]{0,38}[1-9])\z`)

func numRight(n num.Num) bool {
	return n == num.Num{} || form.MatchString(n.Digits) && n.Exp >= -999 && n.Exp <= 999
}

func putAsTold(v json.Value) []byte {
	var b []byte
	switch v.Kind {
	case 1:
		b = append(b, map[bool]byte{false: 1, true: 2}[v.Is])
	case 2:
		b = join([]byte{3}, bytesAsTold(numText(v.Num)))
	case 3:
		b = join([]byte{4}, bytesAsTold(v.Text))
	case 4, 5:
		b = join([]byte{byte(v.Kind + 1)}, varAsTold(len(v.Items)))
		for i, x := range v.Items {
			if v.Kind == 5 {
				b = append(b, bytesAsTold(v.Names[i])...)
			}
			b = append(b, putAsTold(x)...)
		}
	default:
		b = []byte{0}
	}
	return b
}

func numText(n num.Num) string {
	switch {
	case n.Digits == "":
		return "0"
	case n.Down:
		return "-" + numText(num.Num{Digits: n.Digits, Exp: n.Exp})
	case n.Exp == 0:
		return n.Digits
	}
	return fmt.Sprintf("%se%d", n.Digits, n.Exp)
}

func bytesAsTold(s string) []byte { return append(varAsTold(len(s)), s...) }

// varAsTold has a number's rests by 128, from the last byte on.
func varAsTold(n int) []byte {
	b := []byte{byte(n % 128)}
	for n /= 128; n > 0; n /= 128 {
		b = slices.Insert(b, 0, byte(128+n%128))
	}
	return b
}

// getAsTold takes a value of any bytes that have some, without asking whether it may be, and refuses those that aren't the bytes of what was taken.
func getAsTold(b []byte) (json.Value, api.Errno) {
	t := taker{rest: b}
	v := t.value()
	if t.bad || !rightAsTold(v) || string(putAsTold(v)) != string(b) {
		return json.Value{}, api.ErrForm
	}
	return v, api.OK
}

type taker struct {
	rest []byte
	deep int
	bad  bool // it has taken bytes that there aren't, or is far too deep
}

func (t *taker) value() json.Value {
	t.deep++
	defer func() { t.deep-- }()
	mark := t.bytes(1)
	if t.bad || t.deep > 30 {
		t.bad = true
		return json.Value{}
	}
	switch mark[0] {
	case 1, 2:
		return boolean(mark[0] == 2)
	case 3:
		n, e := num.Parse(string(t.bytes(t.number())))
		t.bad = t.bad || e != api.OK
		return json.Value{Kind: json.Number, Num: n}
	case 4:
		return text(string(t.bytes(t.number())))
	case 5, 6:
		v := json.Value{Kind: int(mark[0]) - 1}
		for range t.number() {
			if mark[0] == 6 {
				v.Names = append(v.Names, string(t.bytes(t.number())))
			}
			if v.Items = append(v.Items, t.value()); t.bad {
				break
			}
		}
		return v
	}
	return json.Value{}
}

// number takes a number of any length; of one that is above all that may follow, one that is, too.
func (t *taker) number() int {
	x := new(big.Int)
	for {
		c := t.bytes(1)
		if t.bad {
			return 0
		}
		x.Add(x.Mul(x, big.NewInt(128)), big.NewInt(int64(c[0]%128)))
		if c[0] < 128 {
			break
		}
	}
	if x.Cmp(big.NewInt(1<<31)) > 0 {
		return 1 << 31
	}
	return int(x.Int64())
}

func (t *taker) bytes(n int) []byte {
	if n > len(t.rest) {
		t.bad = true
	}
	if t.bad {
		return nil
	}
	b := t.rest[:n]
	t.rest = t.rest[n:]
	return b
}

// same holds values against each other, part by part; nil lists and empty ones are one.
func same(a, b json.Value) bool {
	return a.Kind == b.Kind && a.Is == b.Is && a.Num == b.Num && a.Text == b.Text && slices.EqualFunc(a.Items, b.Items, same) && slices.Equal(a.Names, b.Names)
}

// What the tests are made of.

func boolean(is bool) json.Value { return json.Value{Kind: json.Bool, Is: is} }

func text(s string) json.Value { return json.Value{Kind: json.String, Text: s} }

func number(s string) json.Value {
	n, e := num.Parse(s)
	if e != api.OK {
		panic("the test itself is wrong: " + s)
	}
	return json.Value{Kind: json.Number, Num: n}
}

func array(l ...json.Value) json.Value { return json.Value{Kind: json.Array, Items: l} }

// object has names and values by turns.
func object(l ...any) json.Value {
	v := json.Value{Kind: json.Object}
	for i := 0; i < len(l); i += 2 {
		v.Names = append(v.Names, l[i].(string))
		v.Items = append(v.Items, l[i+1].(json.Value))
	}
	return v
}

// nest is a value within so many arrays and objects, by turns.
func nest(v json.Value, deep int) json.Value {
	for i := range deep {
		if i%2 == 0 {
			v = array(v)
		} else {
			v = object("a", v)
		}
	}
	return v
}

// around are a value, and arrays and objects that have it as their first Item, their last one, one between, and their only one; also deeper ones.
func around(v json.Value) []json.Value {
	x, y := number("1"), text("y")
	return []json.Value{
		v,
		array(v), array(v, x), array(x, v), array(x, v, y), array(x, y, x, v), array(v, v),
		object("a", v), object("a", v, "b", x), object("a", x, "b", v), object("a", x, "b", v, "c", y), object("a", x, "b", y, "c", x, "d", v), object("a", v, "b", v),
		array(array(v)), array(object("a", v)), object("a", array(v)), object("a", object("a", v)), array(x, array(y, v), y), object("", x, "b", object("b", y, "c", v), "c", y),
		array(array(), v), array(v, array()), array(array(x), object("a", x, "b", array(x, v)), array(x)),
	}
}

// aroundBytes are the same ones, of a value's bytes.
func aroundBytes(b []byte) [][]byte {
	x, y := putAsTold(number("1")), putAsTold(text("y"))
	none := []byte{5, 0}
	arr := func(l ...[]byte) []byte { return join(append([][]byte{{5}, varAsTold(len(l))}, l...)...) }
	obj := func(l ...any) []byte {
		b := join([]byte{6}, varAsTold(len(l)/2))
		for i := 0; i < len(l); i += 2 {
			b = join(b, bytesAsTold(l[i].(string)), l[i+1].([]byte))
		}
		return b
	}
	return [][]byte{
		b,
		arr(b), arr(b, x), arr(x, b), arr(x, b, y), arr(x, y, x, b), arr(b, b),
		obj("a", b), obj("a", b, "b", x), obj("a", x, "b", b), obj("a", x, "b", b, "c", y), obj("a", x, "b", y, "c", x, "d", b), obj("a", b, "b", b),
		arr(arr(b)), arr(obj("a", b)), obj("a", arr(b)), obj("a", obj("a", b)), arr(x, arr(y, b), y), obj("", x, "b", obj("b", y, "c", b), "c", y),
		arr(none, b), arr(b, none), arr(arr(x), obj("a", x, "b", arr(x, b)), arr(x)),
	}
}

func join(l ...[]byte) []byte { return slices.Concat(l...) }

// figures are n digits, of which the first one and the last one are no noughts.
func figures(n int) string { return strings.Repeat("1020304567", n/10+1)[:n-1] + "9" }

// rightOnes are values that may be, of each Kind, empty and full.
func rightOnes() []json.Value {
	l := []json.Value{{}, boolean(false), boolean(true)}
	for _, s := range []string{"0", "7", "-1", "15", "12", "1e1", "1e-1", "-25e-2", "1500", "1e999", "1e-999", "-1e-999", figures(39), figures(40), "-" + figures(40) + "e-999", figures(40) + "e999"} {
		l = append(l, number(s))
	}
	for _, s := range []string{"", "a", "aa", "0", "\x00", "\x00\x01\x02\x03", "\x05\x01\x02", "\"\\\n", "null", "\u0080", "\u00e9", "\u07ff", "\u0800", "\ud7ff", "\ue000", "\ufffd", "\uffff", "\U00010000", "\U0001f600", "\U0010ffff", "a\u00e9\u20ac\U0001f600z"} {
		l = append(l, text(s), object(s, text(s)))
	}
	l = append(l, array(), object(), array(json.Value{}), array(boolean(true)), array(array()), array(object()), array(number("1"), number("1")), array(number("1"), text("a"), boolean(true), boolean(false), json.Value{}, array(), object()),
		object("", json.Value{}), object("a", number("1"), "b", array(), "c", object()), object("", number("1"), "\x00", number("2"), "A", number("3"), "a", number("4"), "a\x00", number("4"), "aa", number("5"), "b", number("6"), "\u00e9", number("7"), "\U0010ffff", number("8")),
		array(object("a", array(object("b", array())))), object("x", number("1"), "y", array(number("2"), text("z"))))
	return append(l, json.Value{Items: []json.Value{}, Names: []string{}}, json.Value{Kind: json.Object, Items: []json.Value{}, Names: []string{}})
}

// longOnes are values with lengths and counts of one byte and of two, and of three.
func longOnes() []json.Value {
	var l []json.Value
	for _, n := range []int{1, 2, 126, 127, 128, 129, 255, 256, 300, 4096, 5000, 16383, 16384, 16385} {
		s := strings.Repeat("s", n)
		l = append(l, text(s), object(s, number("1")), object("", text(s), s, text(s)))
		a, o := array(), object()
		for i := range n {
			x := []json.Value{number("7"), text("a"), {}, array()}[i%4]
			a.Items = append(a.Items, x)
			o.Items = append(o.Items, x)
			o.Names = append(o.Names, fmt.Sprintf("%05d", i))
		}
		l = append(l, a, o)
	}
	return append(l, text(strings.Repeat("\u00e9", 63)), text(strings.Repeat("\u00e9", 64)))
}

// noUTF8 are texts that are no UTF-8: cut off, too long, halves of pairs, above the last sign, and what never begins or ends one.
func noUTF8() []string {
	return []string{"\x80", "\xbf", "\xc0", "\xc1", "\xc2", "\xc3", "\xdf", "\xe0", "\xed", "\xef", "\xf0", "\xf4", "\xf5", "\xf8", "\xfc", "\xfe", "\xff",
		"\xc0\x80", "\xc1\xbf", "\xe0\x80\x80", "\xe0\x9f\xbf", "\xf0\x80\x80\x80", "\xf0\x8f\xbf\xbf", "\xf8\x88\x80\x80\x80", "\xfc\x84\x80\x80\x80\x80",
		"\xed\xa0\x80", "\xed\xad\xbf", "\xed\xae\x80", "\xed\xaf\xbf", "\xed\xb0\x80", "\xed\xbf\xbf", "\xed\xa0\xbd\xed\xb8\x80",
		"\xf4\x90\x80\x80", "\xf4\xbf\xbf\xbf", "\xf5\x80\x80\x80", "\xf7\xbf\xbf\xbf",
		"\xe2\x82", "\xe2", "\xf0\x9f\x98", "\xf0\x9f", "\xf0", "\xc3\xc3", "\xc3a", "\xe2\x82a", "\xe2a", "\xf0\x9f\x98a", "\xf0\x9f\x98\xc3", "\xe2\x28\xa1", "\xf0\x28\x8c\xbc", "\xf0\x90\x28\xbc", "\xf0\x90\x8c\x28", "\xc3\xa9\x80"}
}

// noUTF8Within are those within texts that are else as they may be: ahead, behind, between.
func noUTF8Within() []string {
	var l []string
	for _, s := range noUTF8() {
		l = append(l, s, "a"+s, s+"a", "a"+s+"b", "\u00e9"+s, s+"\u20ac", strings.Repeat("a", 130)+s)
	}
	return l
}

// noNums are those that num.Right refuses.
func noNums() []num.Num {
	return []num.Num{{Down: true}, {Exp: 1}, {Exp: -1}, {Down: true, Exp: 3}, {Digits: "0"}, {Digits: "00"}, {Digits: "01"}, {Digits: "10"}, {Digits: "010"}, {Digits: "100", Exp: 3}, {Down: true, Digits: "0"}, {Digits: "x"}, {Digits: "1x1"}, {Digits: " 1"}, {Digits: "-1"}, {Digits: "+1"}, {Digits: "1.5"}, {Digits: "1e3"}, {Digits: "\xff"}, {Digits: "\u0661"}, {Digits: "1:1"}, {Digits: "1/1"},
		{Digits: figures(41)}, {Digits: strings.Repeat("1", 41)}, {Digits: strings.Repeat("1", 1000)}, {Digits: "1", Exp: 1000}, {Digits: "1", Exp: -1000}, {Digits: "1", Exp: 1 << 62}, {Digits: "1", Exp: -1 << 63}, {Down: true, Digits: "1", Exp: 1000}}
}

// wrongOnes are values that may not be, each by one thing.
func wrongOnes() []json.Value {
	var l []json.Value
	for _, kind := range []int{-1, -2, 6, 7, 8, 255, 256, 257, 1 << 32, 1<<32 + 1, -1 << 63, 1<<63 - 1} {
		l = append(l, json.Value{Kind: kind})
	}
	for kind := range 6 {
		is, n, s, items, names := json.Value{Kind: kind, Is: true}, json.Value{Kind: kind, Num: number("7").Num}, json.Value{Kind: kind, Text: "x"}, json.Value{Kind: kind, Items: []json.Value{{}}}, json.Value{Kind: kind, Names: []string{"a"}}
		all := map[int][]json.Value{json.Null: {is, n, s, items, names}, json.Bool: {n, s, items, names}, json.Number: {is, s, items, names}, json.String: {is, n, items, names}, json.Array: {is, n, s, names}, json.Object: {is, n, s, items, names}}[kind]
		l = append(l, all...)
		// Likewise of full ones.
		for _, x := range all {
			switch kind {
			case json.Bool:
				x.Is = true
			case json.Number:
				x.Num = number("15").Num
			case json.String:
				x.Text = "y"
			case json.Array:
				x.Items = []json.Value{{}}
			case json.Object:
				x.Items, x.Names = append(x.Items, json.Value{}), append(x.Names, "b")
			}
			l = append(l, x)
		}
	}
	l = append(l, json.Value{Items: []json.Value{{}}, Names: []string{"a"}}, json.Value{Kind: json.Bool, Num: num.Num{Exp: 1}}, json.Value{Kind: json.String, Num: num.Num{Down: true}}, json.Value{Kind: json.Array, Num: num.Num{Digits: "x"}}, json.Value{Kind: json.Array, Text: "\xff"}, json.Value{Kind: json.Array, Names: []string{""}}, json.Value{Kind: json.Array, Names: []string{"a"}, Items: []json.Value{{}}})
	for _, n := range noNums() {
		l = append(l, json.Value{Kind: json.Number, Num: n})
	}
	for _, s := range noUTF8Within() {
		l = append(l, text(s), object(s, json.Value{}), object("", json.Value{}, s, json.Value{}))
	}
	return append(l, wrongNames()...)
}

func wrongNames() []json.Value {
	var l []json.Value
	for _, s := range []string{"a,a", ",", "b,a", "a,", "aa,a", "a,A", "a,b,b", "a,a,b", "a,c,b", "b,a,c", "c,b,a", "a,b,a", "a,b,c,d,d", "a,b,c,e,d", "b,a,c,d,e", "\u00e9,z", "\u00e9,\u00e9", "\U00010000,\uffff", "a\x00,a", "9,10"} {
		names := strings.Split(s, ",")
		l = append(l, json.Value{Kind: json.Object, Names: names, Items: make([]json.Value, len(names))})
	}
	for n := range 5 {
		names := []string{"a", "b", "c", "d", "e", "f"}
		l = append(l, json.Value{Kind: json.Object, Names: names[:n], Items: make([]json.Value, n+1)}, json.Value{Kind: json.Object, Names: names[:n+1], Items: make([]json.Value, n)}, json.Value{Kind: json.Object, Names: names, Items: make([]json.Value, n)})
	}
	return l
}

func some[T any](chance *rand.Rand, l ...T) T { return l[chance.IntN(len(l))] }

func someString(chance *rand.Rand) string {
	s := ""
	for range chance.IntN(4) {
		s += some(chance, "a", "b", "\x00", "\u00e9", "\U0001f600", "\x05", "z")
	}
	if chance.IntN(50) == 0 {
		s += strings.Repeat("a", chance.IntN(300))
	}
	return s
}

func someNumber(chance *rand.Rand) json.Value {
	s := some(chance, "", "-") + some(chance, "0", "1", "7", fmt.Sprint(chance.IntN(2000)), figures(1+chance.IntN(40)))
	return number(s + some(chance, "", "", "", fmt.Sprintf("e%d", chance.IntN(40)-20), "e900", "e-900"))
}

// someValue is one that may be, so deep at most.
func someValue(chance *rand.Rand, deep int) json.Value {
	kind := chance.IntN(10)
	if deep == 0 {
		kind = chance.IntN(4)
	}
	switch kind {
	case 0:
		return json.Value{}
	case 1:
		return boolean(chance.IntN(2) == 0)
	case 2:
		return someNumber(chance)
	case 3:
		return text(someString(chance))
	}
	n := chance.IntN(4)
	if chance.IntN(100) == 0 {
		n = chance.IntN(200)
		deep = 1
	}
	if kind%2 == 0 {
		v := array()
		for range n {
			v.Items = append(v.Items, someValue(chance, deep-1))
		}
		return v
	}
	v := object()
	for range n {
		v.Names = append(v.Names, someString(chance))
	}
	v.Names = rising(v.Names)
	for range v.Names {
		v.Items = append(v.Items, someValue(chance, deep-1))
	}
	return v
}

// spoil changes something of one part of a value; perhaps it may still be.
func spoil(chance *rand.Rand, v json.Value) json.Value {
	if len(v.Items) > 0 && chance.IntN(3) > 0 {
		v.Items = slices.Clone(v.Items)
		i := chance.IntN(len(v.Items))
		v.Items[i] = spoil(chance, v.Items[i])
		return v
	}
	switch chance.IntN(8) {
	case 0:
		v.Kind = chance.IntN(9) - 1
	case 1:
		v.Is = !v.Is
	case 2:
		v.Num = some(chance, num.Num{}, number("7").Num, some(chance, noNums()...))
	case 3:
		v.Text = some(chance, "", "x", some(chance, noUTF8()...))
	case 4:
		v.Items = append(slices.Clone(v.Items), someValue(chance, 1))
	case 5:
		v.Names = append(slices.Clone(v.Names), someString(chance))
	case 6:
		v.Items = v.Items[:len(v.Items)/2]
	case 7:
		v.Names = slices.Clone(v.Names)
		if n := len(v.Names); n > 0 {
			v.Names[chance.IntN(n)] = some(chance, someString(chance), some(chance, noUTF8()...))
		}
	}
	return v
}

// show is a value, as it is told of.
func show(v json.Value) string {
	if rightAsTold(v) {
		return brief(json.Text(v))
	}
	return brief(fmt.Sprintf("%+v", v))
}

func brief(s string) string {
	if len(s) > 400 {
		return fmt.Sprintf("%s and so on, %d bytes", s[:400], len(s))
	}
	return s
}

func showBytes(b []byte) string { return brief(fmt.Sprint(b)) }

// wantRight holds a value that may be: Right, Put, and Get of what was put.
func wantRight(t *testing.T, v json.Value) {
	t.Helper()
	if !bin.Right(v) {
		t.Errorf("%s isn't right", show(v))
	}
	if !rightAsTold(v) {
		t.Errorf("%s: the test itself is wrong", show(v))
	}
	wantPut(t, v, putAsTold(v))
}

func wantPut(t *testing.T, v json.Value, want []byte) {
	t.Helper()
	b, e := bin.Put(v)
	if e != api.OK || string(b) != string(want) {
		t.Errorf("Put of %s: %s, error %d, want %s", show(v), showBytes(b), e, showBytes(want))
	}
	if got, e := bin.Get(want); e != api.OK || !same(got, v) {
		t.Errorf("Get of %s: %s, error %d, want %s", showBytes(want), show(got), e, show(v))
	}
}

// wantWrong holds a value that may not be.
func wantWrong(t *testing.T, v json.Value) {
	t.Helper()
	if bin.Right(v) {
		t.Errorf("%s is right", show(v))
	}
	if b, e := bin.Put(v); e != api.ErrArg || b != nil {
		t.Errorf("Put of %s: %s, error %d", show(v), showBytes(b), e)
	}
}

// wantRefused holds bytes that are no value's.
func wantRefused(t *testing.T, b []byte) {
	t.Helper()
	if v, e := bin.Get(b); e != api.ErrForm || !reflect.DeepEqual(v, json.Value{}) {
		t.Errorf("Get of %s: %s, error %d", showBytes(b), show(v), e)
	}
}

// wantAsTold holds Get against the chapter's words; and what is got is put as the same bytes. It tells whether they are a value's.
func wantAsTold(t *testing.T, b []byte) bool {
	t.Helper()
	want, e := getAsTold(b)
	if e != api.OK {
		wantRefused(t, b)
		return false
	}
	v, e := bin.Get(b)
	if e != api.OK || !same(v, want) {
		t.Errorf("Get of %s: %s, error %d, want %s", showBytes(b), show(v), e, show(want))
	}
	if !bin.Right(v) {
		t.Errorf("%s was got, and isn't right", show(v))
	}
	if again, e := bin.Put(v); e != api.OK || string(again) != string(b) {
		t.Errorf("%s was got of %s, and is put as %s, error %d", show(v), showBytes(b), showBytes(again), e)
	}
	return true
}
