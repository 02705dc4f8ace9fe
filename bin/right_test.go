package bin_test

import (
	"fmt"
	"math/rand/v2"
	"strings"
	"testing"

	"rubricator/api"
	"rubricator/bin"
	"rubricator/json"
	"rubricator/num"
)

// P16.1

func wantDeep(t *testing.T, v json.Value, want int) {
	t.Helper()
	if got := bin.Deep(v); got != want {
		t.Errorf("Deep of %s: %d, want %d", show(v), got, want)
	}
}

func TestP161DeepOfWhatIsNoArrayAndNoObject(t *testing.T) {
	full := json.Value{Is: true, Num: num.Num{Digits: "1"}, Text: "[[]]", Items: []json.Value{array(array())}, Names: []string{"a"}}
	for _, kind := range []int{json.Null, json.Bool, json.Number, json.String, -1, 6, 7, 1 << 40, -1 << 63} {
		wantDeep(t, json.Value{Kind: kind}, 0)
		full.Kind = kind
		wantDeep(t, full, 0)
		wantDeep(t, array(full), 1)
	}
	for _, v := range []json.Value{boolean(true), number("1e9"), text("x"), text("[]")} {
		wantDeep(t, v, 0)
	}
}

func TestP161Deep(t *testing.T) {
	one := number("1")
	for _, x := range []struct {
		v    json.Value
		want int
	}{
		{array(), 1}, {object(), 1}, {array(one), 1}, {object("a", one), 1}, {array(one, one, one), 1}, {array(json.Value{}), 1},
		{array(array()), 2}, {array(object()), 2}, {object("a", array()), 2}, {object("a", object()), 2}, {array(array(), array()), 2}, {array(array(one)), 2},
		{array(one, array()), 2}, {array(array(), one), 2}, {array(one, array(), one), 2}, {object("a", one, "b", object()), 2}, {object("a", object(), "b", one), 2},
		{array(array(), array(array())), 3}, {array(array(array()), array()), 3}, {array(array(), array(array()), array()), 3}, {array(one, array(one, object("a", one, "b", one, "c", array(one)))), 4}, {object("a", one, "b", array(one), "c", array(array(array())), "d", array(array())), 4},
		{array(array(array(array())), object("a", object("a", object("a", object()))), array()), 5},
	} {
		wantDeep(t, x.v, x.want)
		wantDeep(t, array(x.v), x.want+1)
		wantDeep(t, array(one, x.v), x.want+1)
		wantDeep(t, object("a", array(), "b", x.v, "c", one), x.want+1)
	}
	for deep := range 100 {
		wantDeep(t, nest(one, deep), deep)
		wantDeep(t, nest(array(), deep), deep+1)
	}
}

// Values that may not be are as deep as their Items.
func TestP161DeepOfWhatIsNotRight(t *testing.T) {
	wantDeep(t, json.Value{Kind: json.Object, Items: []json.Value{{}, array()}}, 2)
	wantDeep(t, json.Value{Kind: json.Object, Names: []string{"a"}}, 1)
	wantDeep(t, json.Value{Kind: json.Array, Names: []string{"a"}, Is: true, Items: []json.Value{{Kind: 9}, text("\xff"), array(json.Value{Kind: -1})}}, 2)
	wantDeep(t, array(json.Value{Kind: 6, Items: []json.Value{array()}}), 1)
}

func TestP161DeepByChance(t *testing.T) {
	chance := rand.New(rand.NewPCG(16, 1))
	for range 20000 {
		v := someValue(chance, 8)
		wantDeep(t, v, deepAsTold(v))
	}
}

func TestP161VeryDeepOnes(t *testing.T) {
	for _, deep := range []int{1000, 1 << 16} {
		v := nest(number("1"), deep)
		wantDeep(t, v, deep)
		wantWrong(t, v)
	}
}

func TestP161RightOnes(t *testing.T) {
	for _, v := range rightOnes() {
		for _, w := range around(v) {
			wantRight(t, w)
		}
	}
	for _, v := range longOnes() {
		wantRight(t, v)
		wantRight(t, array(v))
		wantRight(t, object("a", v, "b", v))
	}
}

func TestP161SixteenAndSeventeenDeep(t *testing.T) {
	one := number("1")
	for deep := range 30 {
		for _, v := range []json.Value{nest(one, deep), nest(text(""), deep), nest(json.Value{}, deep)} {
			if bin.Right(v) != (deep <= 16) {
				t.Errorf("%d deep: %v", deep, bin.Right(v))
			}
			if deep <= 16 {
				wantRight(t, v)
			} else {
				wantWrong(t, v)
			}
		}
	}
	deepest, tooDeep := nest(array(), 15), nest(object(), 16)
	wantRight(t, deepest)
	wantRight(t, nest(object(), 15))
	wantWrong(t, tooDeep)
	wantWrong(t, nest(array(), 16))
	// Not the first Item is the deepest, and others stand behind it.
	for _, v := range []json.Value{nest(one, 15), nest(array(), 14), nest(object(), 14)} {
		for _, w := range []json.Value{array(v), array(v, one), array(one, v), array(one, v, one), array(v, v), array(array(), v), array(v, array()), object("a", v), object("a", one, "b", v), object("a", v, "b", one), object("a", one, "b", v, "c", array())} {
			wantRight(t, w)
			wantWrong(t, array(w))
			wantWrong(t, array(one, w))
			wantWrong(t, array(w, one))
			wantWrong(t, object("a", w))
			wantWrong(t, object("a", array(), "b", w))
			wantWrong(t, object("a", w, "b", one))
		}
	}
	// What isn't right is so at each depth.
	for deep := range 17 {
		wantWrong(t, nest(json.Value{Kind: 6}, deep))
		wantWrong(t, nest(text("\xff"), deep))
		wantWrong(t, nest(json.Value{Is: true}, deep))
	}
}

func TestP161WrongOnes(t *testing.T) {
	for _, v := range wrongOnes() {
		if rightAsTold(v) {
			t.Errorf("%s: the test itself is wrong", show(v))
		}
		for _, w := range around(v) {
			wantWrong(t, w)
		}
	}
	for _, v := range rightOnes() {
		for kind := range 6 {
			w := v
			w.Kind = kind
			if is := rightAsTold(w); is {
				wantRight(t, w)
			} else {
				wantWrong(t, w)
			}
		}
	}
}

// Each sign that UTF-8 has, and each number of a sign that it hasn't.
func TestP161EachSign(t *testing.T) {
	for x := range rune(0x120000) {
		if x > 0x3000 && x%7 != 0 && x>>8 != 0xd7 && x>>8 != 0xd8 && x>>8 != 0xdf && x>>8 != 0xe0 && x>>8 != 0x10ff && x>>8 != 0x1100 {
			continue
		}
		s := string(signAsTold(x))
		may := x < 55296 || x > 57343 && x <= 1114111
		for _, v := range []json.Value{text(s), text("a" + s + "b"), object(s, json.Value{})} {
			if bin.Right(v) != may {
				t.Errorf("sign %d: %v", x, !may)
			}
		}
	}
}

// signAsTold has a sign's bits by sixes, whether there is such a sign or not.
func signAsTold(x rune) []byte {
	low := func(n int) byte { return byte(128 + x>>(6*n)%64) }
	switch {
	case x < 1<<7:
		return []byte{byte(x)}
	case x < 1<<11:
		return []byte{byte(192 + x>>6), low(0)}
	case x < 1<<16:
		return []byte{byte(224 + x>>12), low(1), low(0)}
	}
	return []byte{byte(240 + x>>18), low(2), low(1), low(0)}
}

// All rows of up to three of such names, with each count of Items.
func TestP161EachRowOfNames(t *testing.T) {
	names := []string{"", "a", "b", "aa", "\u00e9", "\xff"}
	var rows [][]string
	rows = append(rows, nil)
	for i := 0; i < len(rows); i++ {
		if len(rows[i]) == 3 {
			break
		}
		for _, name := range names {
			rows = append(rows, append(append([]string{}, rows[i]...), name))
		}
	}
	for _, row := range rows {
		for n := range 5 {
			v := json.Value{Kind: json.Object, Names: row, Items: make([]json.Value, n)}
			if rightAsTold(v) {
				wantRight(t, v)
			} else {
				wantWrong(t, v)
			}
		}
	}
}

func TestP161ByChance(t *testing.T) {
	chance := rand.New(rand.NewPCG(16, 2))
	wrong := 0
	for range 100000 {
		v := someValue(chance, 4)
		if chance.IntN(3) > 0 {
			v = spoil(chance, v)
		}
		if rightAsTold(v) {
			wantRight(t, v)
		} else {
			wrong++
			wantWrong(t, v)
		}
	}
	if wrong < 10000 {
		t.Errorf("only %d were wrong", wrong)
	}
}

// A value that is within itself is deeper than may be.
func TestP161OfWhatHasNoEnd(t *testing.T) {
	l := make([]json.Value, 3)
	v := json.Value{Kind: json.Array, Items: l}
	l[0], l[1], l[2] = v, v, v
	wantEndless(t, v)
	l[0] = number("1")
	wantEndless(t, v)
	m := make([]json.Value, 2)
	w := json.Value{Kind: json.Object, Items: m, Names: []string{"a", "b"}}
	m[1] = w
	wantEndless(t, w)
}

// wantEndless tells of a value that can't be shown.
func wantEndless(t *testing.T, v json.Value) {
	t.Helper()
	if b, e := bin.Put(v); bin.Right(v) || b != nil || e != api.ErrArg {
		t.Errorf("right, or error %d", e)
	}
}

// P16.1, P16.2: what is handed in isn't changed, nor what stands behind it in its lists.
func TestP161ChangesNothing(t *testing.T) {
	chance := rand.New(rand.NewPCG(16, 3))
	for range 5000 {
		items := make([]json.Value, 0, 8)
		names := make([]string, 0, 8)
		for i := range chance.IntN(4) {
			items = append(items, someValue(chance, 3))
			names = append(names, fmt.Sprint(i))
		}
		for _, v := range []json.Value{{Kind: json.Array, Items: items}, {Kind: json.Object, Items: items, Names: names}, spoil(chance, array(items...))} {
			was := fmt.Sprintf("%#v", v)
			bin.Right(v)
			bin.Deep(v)
			bin.Put(v)
			if now := fmt.Sprintf("%#v", v); now != was {
				t.Fatalf("%s was changed: %s", was, now)
			}
		}
		for _, x := range items[len(items):cap(items)] {
			if !same(x, json.Value{}) {
				t.Fatalf("%s stands behind the Items", show(x))
			}
		}
		if s := strings.Join(names[len(names):cap(names)], ""); s != "" {
			t.Fatalf("%q stands behind the Names", s)
		}
	}
}
