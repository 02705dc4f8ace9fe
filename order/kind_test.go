package order_test

import (
	"math"
	"math/rand/v2"
	"testing"

	"rubricator/json"
)

// P17.2

func TestP172Kind(t *testing.T) {
	wantKind(t, json.Value{}, 1, 2)
	for _, is := range []bool{false, true} {
		wantKind(t, boolean(is), 2, 4)
	}
	for _, s := range []string{"0", "7", "-7", "1e999", "-1e-999", figures(40), "-" + figures(40) + "e999"} {
		wantKind(t, number(s), 4, 5)
	}
	for _, s := range []string{"", "a", "\x00", "\u00ff", "\U0010ffff", "null"} {
		wantKind(t, text(s), 5, 6)
	}
}

func TestP172KindOfArraysAndObjects(t *testing.T) {
	for _, l := range [][]json.Value{nil, {}, {{}}, {boolean(true)}, {number("1"), text("x")}, {array()}, {object(), array(text(""))}} {
		wantKind(t, array(l...), 6, 7)
		wantKind(t, object(l...), 6, 7)
	}
	l := make([]json.Value, 1)
	l[0] = json.Value{Kind: json.Array, Items: l}
	wantKind(t, array(number("1"), text("x")), 6, 7)
	wantKind(t, json.Value{Kind: json.Object, Names: []string{"a"}}, 6, 7)
}

// All others are those, too, of which there is no Kind.
func TestP172KindOfAllOthers(t *testing.T) {
	for kind := -300; kind < 300; kind++ {
		if kind < json.Null || kind > json.String {
			wantKind(t, json.Value{Kind: kind}, 6, 7)
			wantKind(t, json.Value{Kind: kind, Is: true, Num: number("7").Num, Text: "x", Items: []json.Value{{}}, Names: []string{"a"}}, 6, 7)
		}
	}
	for _, kind := range []int{math.MinInt, math.MinInt + 1, math.MaxInt, math.MaxInt - 1, 1 << 8, 1 << 16, 1 << 32, 1<<32 + 1, 1<<32 + 2, -1 << 32, 1<<62 + 3} {
		wantKind(t, json.Value{Kind: kind}, 6, 7)
	}
}

func TestP172KindByChance(t *testing.T) {
	chance := rand.New(rand.NewPCG(17, 2))
	for range 10000 {
		v := someValue(chance)
		x := kindAsTold(v)
		wantKind(t, v, x[0], x[1])
	}
}
