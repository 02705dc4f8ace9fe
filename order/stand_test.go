package order_test

import (
	"bytes"
	"fmt"
	"math/rand/v2"
	"slices"
	"strings"
	"testing"

	"rubricator/json"
	"rubricator/num"
	"rubricator/order"
)

// P17.3

// rising are values that rise, of all Kinds that have Keys.
func rising() []json.Value {
	l := []json.Value{{}, boolean(false), boolean(true)}
	nines := strings.Repeat("9", 40)
	for _, s := range []string{"-" + nines + "e999", "-1e999", "-1e40", "-" + nines, "-1500", "-151", "-15", "-12", "-11", "-10.1", "-10", "-9.9", "-9", "-2", "-1.5", "-1.2", "-1.01", "-1", "-0.999", "-0.99", "-0.9", "-0.51", "-0.501", "-0.5", "-0.1", "-0.09", "-0.01", "-" + nines + "e-999", "-1e-998", "-2e-999", "-1e-999",
		"0", "1e-999", "2e-999", "1e-998", nines + "e-999", "0.01", "0.09", "0.1", "0.5", "0.501", "0.51", "0.9", "0.99", "0.999", "1", "1.01", "1.2", "1.5", "2", "9", "9.9", "10", "10.1", "11", "12", "15", "151", "1500", nines, "1e40", "1e999", nines + "e999"} {
		l = append(l, number(s))
	}
	for _, s := range []string{"", "\x00", "\x00\x00", "\x00\x00\x00", "\x00\x00\x01", "\x00\x01", "\x00a", "\x00\u00ff", "\x01", "\x01\x00", "\x01\x00\x00", "\x01\x01", "0", "10", "9", "a", "a\x00", "a\x00\x00", "a\x00\x00b", "a\x00\x01", "a\x00b", "a\x00\U0010ffff", "a\x01", "a\x01\x00", "aa", "ab", "a\u00fe", "a\u00ff", "b", "\x7f", "\u0080", "\u00fe", "\u00fe\x00", "\u00fe\x01", "\u00ff", "\u00ff\x00", "\u00ff\u00ff", "\u07ff", "\u0800", "\uffff", "\U00010000", "\U0010ffff", "\U0010ffff\x00", "\U0010ffff\U0010ffff"} {
		l = append(l, text(s))
	}
	return l
}

// That they rise is told here by where they stand alone.
func TestP173Rising(t *testing.T) {
	l := rising()
	for i, v := range l {
		for _, w := range l[i+1:] {
			a, _ := order.Key(v)
			b, _ := order.Key(w)
			if bytes.Compare(a, b) != -1 {
				t.Errorf("Keys of %s and %s: %v, %v", show(v), show(w), a, b)
			}
		}
	}
	wantAllStand(t, l)
}

// Digits of which one's begin another one's, of each side of 0, and of heights on either side of it.
func TestP173DigitsThatBeginOthers(t *testing.T) {
	for _, height := range []int{-959, -100, -1, 0, 1, 2, 3, 40, 56, 999, 1000} {
		var l []json.Value
		for _, digits := range []string{"1", "11", "101", "1001", "111", "12", "2", "9", "91", "901", "99", "999", "9999", strings.Repeat("9", 39), strings.Repeat("9", 40), strings.Repeat("1", 39), strings.Repeat("1", 40), figures(39), figures(40)} {
			for _, exp := range []int{height - len(digits), height - len(digits) + 1} {
				for _, down := range []bool{false, true} {
					n := num.Num{Down: down, Digits: digits, Exp: exp}
					if num.Right(n) {
						l = append(l, json.Value{Kind: json.Number, Num: n})
					}
				}
			}
		}
		if len(l) < 60 {
			t.Errorf("height %d: only %d", height, len(l))
		}
		wantAllStand(t, l)
	}
}

func TestP173NumbersAtEdges(t *testing.T) {
	wantNeighbors(t, numbersAtEdges())
	wantAllStand(t, evenly(numbersAtEdges(), 300))
}

func TestP173EachShortNumber(t *testing.T) {
	var l []json.Value
	for x := range 1200 {
		for _, s := range []string{"", "e-2", "e3"} {
			l = append(l, number(fmt.Sprint(x)+s), number(fmt.Sprint(-x)+s))
		}
	}
	wantNeighbors(t, l)
}

// Numbers from one exponent to the next, all of them.
func TestP173EachExp(t *testing.T) {
	var l []json.Value
	for exp := -999; exp <= 999; exp++ {
		for _, s := range []string{"1", "15", "9", "-1", "-15", "-9"} {
			l = append(l, number(fmt.Sprintf("%se%d", s, exp)))
		}
	}
	wantNeighbors(t, l)
}

func TestP173EachRowOfSigns(t *testing.T) {
	short := textsOf(rows(4, "\x00", "\x01", "a", "\u00ff"))
	wantAllStand(t, short)
	wantAllStand(t, textsOf(rows(2, edgeSigns()...)))
	wantNeighbors(t, textsOf(rows(7, "\x00", "\x01", "\U0010ffff")))
}

// A string, and those that it begins.
func TestP173StringsThatBeginOthers(t *testing.T) {
	for _, s := range []string{"", "a", "\x00", "a\x00", "\x00a", "\x00\x00", "\u00ff", "\U0010ffff", strings.Repeat("a", 100), strings.Repeat("\x00", 100)} {
		l := []json.Value{text(s)}
		for _, more := range rows(2, edgeSigns()...) {
			l = append(l, text(s+more))
		}
		wantAllStand(t, evenly(l, 120))
		for _, v := range l[1:] {
			wantStand(t, l[0], v)
		}
	}
}

func TestP173ByChance(t *testing.T) {
	chance := rand.New(rand.NewPCG(17, 3))
	told := map[int]int{}
	for range 100000 {
		v, w := someValue(chance), someValue(chance)
		if chance.IntN(3) > 0 {
			w = near(chance, v)
		}
		wantStand(t, v, w)
		if v.Kind == w.Kind {
			told[json.Compare(v, w)]++
		}
	}
	for _, want := range []int{-1, 0, 1} {
		if told[want] < 1000 {
			t.Errorf("%d only %d times", want, told[want])
		}
	}
	var l []json.Value
	for range 30000 {
		l = append(l, someValue(chance))
	}
	wantNeighbors(t, l)
}

// wantNeighbors sorts values by their Keys, and holds each against the next one.
func wantNeighbors(t *testing.T, l []json.Value) {
	t.Helper()
	slices.SortFunc(l, func(v, w json.Value) int {
		a, _ := order.Key(v)
		b, _ := order.Key(w)
		return bytes.Compare(a, b)
	})
	for i, v := range l[1:] {
		if json.Compare(l[i], v) > 0 {
			t.Errorf("%s stands ahead of %s", show(l[i]), show(v))
		}
		wantStand(t, l[i], v)
	}
}

// evenly are so many of a list at most, from all of it.
func evenly(l []json.Value, most int) []json.Value {
	var out []json.Value
	step := len(l)/most + 1
	for i := 0; i < len(l); i += step {
		out = append(out, l[i])
	}
	return out
}
