package json_test

import (
	"cmp"
	"math/rand/v2"
	"slices"
	"strings"
	"testing"

	"rubricator/json"
)

// P15.3

// risingTexts are texts of values that rise.
var risingTexts = []string{
	`null`, `false`, `true`,
	`-1e999`, `-2`, `-15e-1`, `-1`, `-1e-999`, `0`, `1e-999`, `0.5`, `1`, `1.5`, `2`, `10`, `15e2`, `1e999`,
	`""`, `"\u0000"`, `"\u0001"`, `" "`, `"10"`, `"9"`, `"A"`, `"B"`, `"a"`, `"a\u0000"`, `"aa"`, `"ab"`, `"b"`, `"null"`, `"\u007f"`, `"\u0080"`, `"\u00e9"`, `"\u20ac"`, `"\uffff"`, `"\ud800\udc00"`, `"\udbff\udfff"`,
	`[]`, `[null]`, `[null,null]`, `[null,[]]`, `[false]`, `[true]`, `[true,0]`, `[-1]`, `[0]`, `[0,null]`, `[0,0]`, `[0,0,0]`, `[0,1]`, `[0,""]`, `[1]`, `[1,0]`, `[2]`, `[10]`, `[""]`, `["",0]`, `["a"]`, `["a","a"]`, `["aa"]`, `[[]]`, `[[],0]`, `[[],[]]`, `[[0]]`, `[[0],[0]]`, `[[0,0]]`, `[[[]]]`, `[{}]`, `[{},0]`, `[{"a":0}]`, `[{"a":0},0]`, `[{"a":1}]`, `[{"b":0}]`,
	`{}`, `{"":null}`, `{"":null,"a":0}`, `{"":0}`, `{"":0,"b":0}`, `{"A":9}`, `{"a":null}`, `{"a":false}`, `{"a":true}`, `{"a":0}`, `{"a":0,"aa":0}`, `{"a":0,"b":null}`, `{"a":0,"b":0}`, `{"a":0,"b":0,"c":0}`, `{"a":0,"b":1}`, `{"a":0,"c":null}`, `{"a":1}`, `{"a":1,"b":0}`, `{"a":10}`, `{"a":""}`, `{"a":[]}`, `{"a":[0]}`, `{"a":{}}`, `{"a":{},"b":0}`, `{"a":{"a":0}}`, `{"a":{"a":0},"b":0}`, `{"a":{"b":0}}`, `{"aa":null}`, `{"aa":null,"ab":null}`, `{"ab":null}`, `{"b":null}`, `{"b":0}`, `{"\u00e9":0}`,
}

func risingOnes(t *testing.T) []json.Value {
	var l []json.Value
	for _, s := range risingTexts {
		l = append(l, valueOf(t, s))
	}
	return l
}

// Values that rise, of all Kinds, each held against each: alone, within others, and nested deeper than a text may be.
func TestP153CompareRising(t *testing.T) {
	l := risingOnes(t)
	for i, a := range l {
		for j, b := range l {
			want := cmp.Compare(i, j)
			wantCompare(t, a, b, want)
			wantCompare(t, array(a), array(b), want)
			wantCompare(t, array(a, number("9")), array(b, number("1")), cmp.Or(want, 1))
			wantCompare(t, array(number("1"), a), array(number("1"), b), want)
			wantCompare(t, object("a", a), object("a", b), want)
			wantCompare(t, object("a", a, "b", number("9")), object("a", b, "b", number("1")), cmp.Or(want, 1))
			wantCompare(t, object("a", a, "c", number("1")), object("a", b, "b", number("9")), cmp.Or(want, 1))
			wantCompare(t, object("a", number("1"), "b", a), object("a", number("1"), "b", b), want)
			wantCompare(t, object("b", a), object("a", b), 1)
			deep := 17 + (i+j)%4
			wantCompare(t, nest(a, deep), nest(b, deep), want)
		}
	}
}

func TestP153Compare(t *testing.T) {
	for _, x := range []struct {
		a, b string
		want int
	}{
		{`null`, `null`, 0}, {`true`, `true`, 0}, {`false`, `false`, 0}, {`false`, `true`, -1}, {`1.0`, `1`, 0}, {`-0`, `0`, 0}, {`15e2`, `1500`, 0}, {`9`, `10`, -1}, {`-9`, `-10`, 1}, {`1e2`, `99`, 1},
		{`"9"`, `"10"`, 1}, {`"a"`, `"\u0061"`, 0}, {`"a"`, `"B"`, 1}, {`"a"`, `"ab"`, -1}, {`""`, `""`, 0}, {`"\uffff"`, `"\ud800\udc00"`, -1},
		{`null`, `false`, -1}, {`true`, `-1e999`, -1}, {`1e999`, `""`, -1}, {`"\uffff"`, `[]`, -1}, {`[{"z":9}]`, `{}`, -1}, {`null`, `{}`, -1}, {`false`, `0`, -1}, {`0`, `"0"`, -1}, {`"[]"`, `[]`, -1},
		{`[]`, `[]`, 0}, {`[1,2]`, `[1,2]`, 0}, {`[1,2]`, `[1,2,0]`, -1}, {`[1,2]`, `[1,3]`, -1}, {`[2]`, `[1,9,9]`, 1}, {`[1,[2]]`, `[1,[2,null]]`, -1}, {`["a"]`, `[1,1]`, 1}, {`[]`, `[null]`, -1},
		{`{}`, `{}`, 0}, {`{"a":1,"b":2}`, `{"b":2,"a":1}`, 0}, {`{"a":9}`, `{"b":1}`, -1}, {`{"a":1}`, `{"a":2}`, -1}, {`{"a":1}`, `{"a":1,"b":0}`, -1}, {`{"b":0}`, `{"a":9,"b":9}`, 1}, {`{"a":2}`, `{"a":1,"b":9}`, 1}, {`{"a":1,"b":9}`, `{"a":1,"c":0}`, -1}, {`{"a":{"b":1}}`, `{"a":{"b":1.0}}`, 0}, {`{"a":1,"aa":1}`, `{"a":1,"b":1}`, -1}, {`{"b":1,"a":2}`, `{"b":2,"a":1}`, 1},
	} {
		wantCompare(t, valueOf(t, x.a), valueOf(t, x.b), x.want)
	}
}

// By chance; it turns round where its arguments do, and what is between is between.
func TestP153CompareAsTold(t *testing.T) {
	chance := rand.New(rand.NewPCG(15, 8))
	told := map[int]int{}
	for range 50000 {
		deep := chance.IntN(5)
		a, b := someValue(chance, deep), someValue(chance, deep)
		want := compareAsTold(a, b)
		told[want]++
		wantCompare(t, a, b, want)
		wantCompare(t, a, a, 0)
		wantCompare(t, array(a, b), array(a, a), -compareAsTold(a, b))
	}
	for _, want := range []int{-1, 0, 1} {
		if told[want] < 1000 {
			t.Errorf("%d only %d times", want, told[want])
		}
	}
	for range 200 {
		l := []json.Value{}
		for range 30 {
			l = append(l, someValue(chance, 3))
		}
		slices.SortFunc(l, json.Compare)
		for i := range l {
			for j := i; j < len(l); j++ {
				if json.Compare(l[i], l[j]) > 0 {
					t.Errorf("%s, sorted ahead of %s", show(l[i]), show(l[j]))
				}
			}
		}
	}
}

// One part of a value is changed: Compare tells it as the words do.
func TestP153OnePart(t *testing.T) {
	chance := rand.New(rand.NewPCG(15, 9))
	for range 20000 {
		v := nest(someValue(chance, 4), chance.IntN(25))
		w := otherwise(chance, v)
		wantCompare(t, v, w, compareAsTold(v, w))
	}
}

// otherwise is a value with one part of it changed, perhaps to the same.
func otherwise(chance *rand.Rand, v json.Value) json.Value {
	if len(v.Items) == 0 || chance.IntN(5) == 0 {
		return someValue(chance, 2)
	}
	at := chance.IntN(len(v.Items))
	w := v
	w.Items, w.Names = slices.Clone(v.Items), slices.Clone(v.Names)
	switch way := chance.IntN(6); {
	case way == 0:
		w.Items = w.Items[:len(w.Items)-1]
		w.Names = w.Names[:min(len(w.Names), len(w.Items))]
	case way == 1 && v.Kind == json.Object:
		w.Names[len(w.Names)-1] += "more"
	default:
		w.Items[at] = otherwise(chance, w.Items[at])
	}
	return w
}

func TestP153CompareDeepOnes(t *testing.T) {
	const deep = 1 << 16
	a, b, c := array(), array(), array(number("1"))
	x, y, z := object(), object(), object("", number("1"))
	for range deep - 2 {
		a, b, c = array(a), array(b), array(c)
		x, y, z = object("", x), object("", y), object("", z)
	}
	for _, l := range [][3]json.Value{{a, b, c}, {x, y, z}} {
		if json.Compare(l[0], l[1]) != 0 || json.Compare(l[0], l[2]) != -1 || json.Compare(l[2], l[1]) != 1 {
			t.Errorf("deep ones: %d, %d, %d", json.Compare(l[0], l[1]), json.Compare(l[0], l[2]), json.Compare(l[2], l[1]))
		}
	}
	if json.Compare(a, x) != -1 || json.Compare(x, a) != 1 {
		t.Error("deep ones of two Kinds")
	}
	long := strings.Repeat("a", 100000)
	wantCompare(t, text(long), text(long+"a"), -1)
	wantCompare(t, object(long, number("1")), object(long, number("2")), -1)
}
