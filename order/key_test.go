package order_test

import (
	"bytes"
	"fmt"
	"math"
	"math/rand/v2"
	"strings"
	"testing"

	"rubricator/api"
	"rubricator/json"
	"rubricator/num"
	"rubricator/order"
)

// P17.1

func TestP171Examples(t *testing.T) {
	wantKey(t, number("7"), 4, 2, 7, 209, 8, 0)
}

func TestP171NullFalseTrue(t *testing.T) {
	wantKey(t, json.Value{}, 1)
	wantKey(t, boolean(false), 2)
	wantKey(t, boolean(true), 3)
	// Empty lists are as good as none.
	wantKey(t, json.Value{Items: []json.Value{}, Names: []string{}}, 1)
	wantKey(t, json.Value{Kind: json.Bool, Is: true, Items: []json.Value{}, Names: []string{}}, 3)
}

func TestP171Zero(t *testing.T) {
	for _, s := range []string{"0", "-0", "0.000", "0e5", "-0e-999"} {
		wantKey(t, number(s), 4, 1)
	}
}

func TestP171Numbers(t *testing.T) {
	for s, want := range map[string][]byte{
		"1":      {4, 2, 7, 209, 2, 0},
		"9":      {4, 2, 7, 209, 10, 0},
		"-1":     {4, 0, 248, 46, 253, 255},
		"-7":     {4, 0, 248, 46, 247, 255},
		"-9":     {4, 0, 248, 46, 245, 255},
		"10":     {4, 2, 7, 210, 2, 0},
		"12":     {4, 2, 7, 210, 2, 3, 0},
		"-12":    {4, 0, 248, 45, 253, 252, 255},
		"101":    {4, 2, 7, 211, 2, 1, 2, 0},
		"1500":   {4, 2, 7, 212, 2, 6, 0},
		"-1500":  {4, 0, 248, 43, 253, 249, 255},
		"0.5":    {4, 2, 7, 208, 6, 0}, // height 0
		"-0.250": {4, 0, 248, 47, 252, 249, 255},
		"0.05":   {4, 2, 7, 207, 6, 0}, // height -1
		"-0.05":  {4, 0, 248, 48, 249, 255},
		"1.5":    {4, 2, 7, 209, 2, 6, 0},
		"0.001":  {4, 2, 7, 206, 2, 0},
		"1e47":   {4, 2, 8, 0, 2, 0}, // a height of 48, and 2000
		"1e46":   {4, 2, 7, 255, 2, 0},
		"-1e47":  {4, 0, 247, 255, 253, 255},
		"-1e46":  {4, 0, 248, 0, 253, 255},
		"1e-209": {4, 2, 7, 0, 2, 0},
		"1e-210": {4, 2, 6, 255, 2, 0},
		"1e999":  {4, 2, 11, 184, 2, 0},
		"-1e999": {4, 0, 244, 71, 253, 255},
		// The least height.
		"1e-999":  {4, 2, 3, 234, 2, 0},
		"-1e-999": {4, 0, 252, 21, 253, 255},
	} {
		wantKey(t, number(s), want...)
	}
}

func TestP171NumbersOfFortyDigits(t *testing.T) {
	ones, nines := strings.Repeat("1", 40), strings.Repeat("9", 40)
	above := func(high, low byte, c byte) []byte {
		return append(append([]byte{4, 2, high, low}, bytes.Repeat([]byte{c}, 40)...), 0)
	}
	below := func(high, low byte, c byte) []byte {
		return append(append([]byte{4, 0, high, low}, bytes.Repeat([]byte{c}, 40)...), 255)
	}
	wantKey(t, number(ones), above(7, 248, 2)...)
	wantKey(t, number(nines), above(7, 248, 10)...)
	wantKey(t, number("-"+ones), below(248, 7, 253)...)
	wantKey(t, number("-"+nines), below(248, 7, 245)...)
	wantKey(t, number(nines+"e-40"), above(7, 208, 10)...)
	// The greatest height, and the least Exp.
	wantKey(t, number(nines+"e999"), above(11, 223, 10)...)
	wantKey(t, number("-"+nines+"e999"), below(244, 32, 245)...)
	wantKey(t, number(ones+"e-999"), above(4, 17, 2)...)
	wantKey(t, number("-"+ones+"e-999"), below(251, 238, 253)...)
}

func TestP171NumbersAtEdges(t *testing.T) {
	least, greatest := math.MaxInt, math.MinInt
	for _, v := range numbersAtEdges() {
		wantAsTold(t, v)
		if height := len(v.Num.Digits) + v.Num.Exp; v.Num.Digits != "" {
			least, greatest = min(least, height), max(greatest, height)
		}
	}
	if least != -998 || greatest != 1039 {
		t.Errorf("heights from %d to %d", least, greatest)
	}
}

// Each height that may be, with the fewest digits and with the most.
func TestP171EachHeight(t *testing.T) {
	for exp := -999; exp <= 999; exp++ {
		for _, digits := range []string{"1", "45", figures(40)} {
			for _, down := range []bool{false, true} {
				wantAsTold(t, json.Value{Kind: json.Number, Num: num.Num{Down: down, Digits: digits, Exp: exp}})
			}
		}
	}
}

func TestP171EachShortNumber(t *testing.T) {
	for x := range 20000 {
		for _, s := range []string{"", "e-3", "e5"} {
			wantAsTold(t, number(fmt.Sprint(x)+s))
			wantAsTold(t, number(fmt.Sprint(-x)+s))
		}
	}
}

func TestP171Strings(t *testing.T) {
	for s, want := range map[string][]byte{
		"":             {5, 0, 0},
		"a":            {5, 97, 0, 0},
		"ab":           {5, 97, 98, 0, 0},
		"0":            {5, 48, 0, 0},
		"\x00":         {5, 0, 255, 0, 0},
		"\x00\x00":     {5, 0, 255, 0, 255, 0, 0},
		"\x00\x00\x00": {5, 0, 255, 0, 255, 0, 255, 0, 0},
		"\x00a":        {5, 0, 255, 97, 0, 0},
		"a\x00":        {5, 97, 0, 255, 0, 0},
		"a\x00b":       {5, 97, 0, 255, 98, 0, 0},
		"a\x00\x00b":   {5, 97, 0, 255, 0, 255, 98, 0, 0},
		"\x00a\x00":    {5, 0, 255, 97, 0, 255, 0, 0},
		"\x01":         {5, 1, 0, 0},
		"\x01\x00":     {5, 1, 0, 255, 0, 0},
		"\x00\x01":     {5, 0, 255, 1, 0, 0},
		"\u00fe":       {5, 195, 190, 0, 0},
		"\u00ff":       {5, 195, 191, 0, 0},
		"\x00\u00ff":   {5, 0, 255, 195, 191, 0, 0},
		"\u00fe\x00":   {5, 195, 190, 0, 255, 0, 0},
		"\u20ac":       {5, 226, 130, 172, 0, 0},
		"\U0010ffff":   {5, 244, 143, 191, 191, 0, 0},
		"null":         {5, 110, 117, 108, 108, 0, 0},
		"\"\\\n":       {5, 34, 92, 10, 0, 0},
	} {
		wantKey(t, text(s), want...)
	}
	wantKey(t, json.Value{Kind: json.String, Text: "a", Items: []json.Value{}, Names: []string{}}, 5, 97, 0, 0)
}

func TestP171EachSign(t *testing.T) {
	for x := range rune(0x10ffff + 1) {
		if x > 0x3000 && x%61 != 0 || x >= 0xd800 && x < 0xe000 {
			continue
		}
		wantAsTold(t, text(string(x)))
		wantAsTold(t, text("\x00"+string(x)+"\x00"))
	}
}

func TestP171EachRowOfSigns(t *testing.T) {
	for _, s := range append(rows(6, "\x00", "\x01", "a", "\u00ff"), rows(3, edgeSigns()...)...) {
		wantAsTold(t, text(s))
	}
}

func TestP171LongStrings(t *testing.T) {
	for _, n := range []int{94, 95, 96, 97, 255, 256, 300, 4096, 65536, 1 << 20} {
		for _, sign := range []string{"\x00", "a", "a\x00", "\U0010ffff"} {
			wantAsTold(t, text(strings.Repeat(sign, n)))
		}
	}
}

// Of arrays and objects there are none, whatever is in them, and of those that may not be neither.
func TestP171ArraysAndObjects(t *testing.T) {
	for _, l := range [][]json.Value{nil, {}, {{}}, {boolean(true)}, {number("1"), number("2")}, {text("")}, {array()}, {object()}, {array(number("0")), object(text("x")), {}}} {
		wantType(t, array(l...))
		wantType(t, object(l...))
		wantType(t, json.Value{Kind: json.Object, Items: l})
		wantType(t, json.Value{Kind: json.Array, Items: l, Is: true, Num: number("7").Num, Text: "x", Names: []string{"b"}})
	}
	deep := array()
	for range 1000 {
		deep = array(object(deep))
	}
	wantType(t, deep)
	l := make([]json.Value, 1)
	l[0] = json.Value{Kind: json.Array, Items: l}
	if b, e := order.Key(l[0]); b != nil || e != api.ErrType {
		t.Errorf("one within itself: %v, error %d", b, e)
	}
}

func TestP171ByChance(t *testing.T) {
	chance := rand.New(rand.NewPCG(17, 1))
	for range 100000 {
		wantAsTold(t, someValue(chance))
	}
}

// Of values that may not be some answer is told, which is none beside an error.
func TestP171OfWhatIsNotRight(t *testing.T) {
	l := []json.Value{{Kind: json.Null, Is: true}, {Kind: json.Bool, Text: "x"}, {Kind: json.String, Text: "\xff\xfe\x00"}, {Kind: json.String, Num: number("7").Num, Items: []json.Value{{}}}}
	for _, kind := range []int{-1, -2, 6, 7, 255, 256, 258, 1 << 32, math.MinInt, math.MaxInt} {
		l = append(l, json.Value{Kind: kind}, json.Value{Kind: kind, Is: true, Num: number("7").Num, Text: "x"})
	}
	for _, digits := range []string{"", "0", "00", "01", "10", "x", "/", ":", "\x00", "\xff", "1.5", "-1", "\u0661", figures(41), strings.Repeat("9", 100000)} {
		for _, exp := range []int{math.MinInt, -3000, -2001, -2000, -1000, 0, 5, 1000, 63536, 70000, math.MaxInt} {
			l = append(l, json.Value{Kind: json.Number, Num: num.Num{Digits: digits, Exp: exp}}, json.Value{Kind: json.Number, Num: num.Num{Down: true, Digits: digits, Exp: exp}})
		}
	}
	for _, v := range l {
		b, e := order.Key(v)
		again, f := order.Key(v)
		if e != f || !bytes.Equal(b, again) || e != api.OK && b != nil {
			t.Errorf("Key of %s: %s, error %d, then %s, error %d", show(v), brief(b), e, brief(again), f)
		}
	}
}

// What is handed in isn't changed, nor what stands behind it in its lists.
func TestP171ChangesNothing(t *testing.T) {
	items := append(make([]json.Value, 0, 4), number("1"), text("a\x00"), array(number("2")))
	names := append(make([]string, 0, 4), "a", "b", "c")
	l := []json.Value{{Kind: json.Array, Items: items}, {Kind: json.Object, Items: items, Names: names}}
	for kind := range json.Array {
		l = append(l, json.Value{Kind: kind, Is: true, Num: number("-15e3").Num, Text: "\x00x\x00", Items: items, Names: names})
	}
	for _, v := range l {
		was := fmt.Sprintf("%#v %#v %#v", v, items[:4], names[:4])
		order.Key(v)
		order.Kind(v)
		if now := fmt.Sprintf("%#v %#v %#v", v, items[:4], names[:4]); now != was {
			t.Errorf("%s was changed: %s", was, now)
		}
	}
}

// What is told is new memory each time, with what stands behind it: whoever changes it changes nothing else.
func TestP171NewMemory(t *testing.T) {
	for _, v := range []json.Value{{}, boolean(false), boolean(true), number("0"), number("7"), number("-15e3"), number(figures(40)), text(""), text("a"), text("\x00b\x00"), text(strings.Repeat("a", 1000)), text("\x00")} {
		was := fmt.Sprintf("%#v", v)
		a, _ := order.Key(v)
		b, _ := order.Key(v)
		a = a[:cap(a)]
		for i := range a {
			a[i] ^= 0x55
		}
		if !bytes.Equal(b, keyAsTold(v)) || fmt.Sprintf("%#v", v) != was {
			t.Errorf("Key of %s became %s", was, brief(b))
		}
		wantAsTold(t, v)
	}
}
