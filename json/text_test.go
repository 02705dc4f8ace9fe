package json_test

import (
	"fmt"
	"math/rand/v2"
	"reflect"
	"strings"
	"testing"

	"rubricator/api"
	"rubricator/json"
	"rubricator/num"
)

// P15.2

func TestP152Examples(t *testing.T) {
	wantText(t, valueOf(t, `{"b":1.0,"a":[]}`), `{"a":[],"b":1}`)
}

func TestP152Text(t *testing.T) {
	for _, x := range []struct {
		v    json.Value
		want string
	}{
		{json.Value{}, "null"}, {boolean(true), "true"}, {boolean(false), "false"},
		{number("0"), "0"}, {number("-0"), "0"}, {number("7"), "7"}, {number("1500"), "15e2"}, {number("-0.250"), "-25e-2"}, {number("1e-999"), "1e-999"}, {number("1.0"), "1"},
		{text(""), `""`}, {text("a"), `"a"`}, {text("a b"), `"a b"`}, {text("null"), `"null"`}, {text("/"), `"/"`}, {text("<>&'"), `"<>&'"`}, {text("\x7f"), "\"\x7f\""}, {text("\u00e9\u20ac\U0001f600"), "\"\u00e9\u20ac\U0001f600\""}, {text("\u2028\u2029\ufeff\ufffd\uffff"), "\"\u2028\u2029\ufeff\ufffd\uffff\""},
		{text(`"`), `"\""`}, {text(`\`), `"\\"`}, {text(`\"`), `"\\\""`}, {text(`""`), `"\"\""`}, {text(`a"b\c`), `"a\"b\\c"`}, {text("\x00"), `"\u0000"`}, {text("\n"), `"\u000a"`}, {text("\x1f"), `"\u001f"`}, {text("a\tb\r\n"), `"a\u0009b\u000d\u000a"`}, {text(`\n`), `"\\n"`}, {text(`\u0041`), `"\\u0041"`}, {text("\\\n"), `"\\\u000a"`},
		{array(), "[]"}, {array(json.Value{}), "[null]"}, {array(array()), "[[]]"}, {array(object()), "[{}]"}, {array(number("1"), text("a"), boolean(true), boolean(false)), `[1,"a",true,false]`}, {array(number("1"), number("1")), "[1,1]"}, {array(text(",")), `[","]`},
		{object(), "{}"}, {object("", json.Value{}), `{"":null}`}, {object("a", number("1")), `{"a":1}`}, {object("a", number("1"), "b", array(), "c", object()), `{"a":1,"b":[],"c":{}}`}, {object("\"", text("\"")), `{"\"":"\""}`}, {object("\n", text("\n"), "\\", text("\\")), `{"\u000a":"\u000a","\\":"\\"}`}, {object("A", number("1"), "a", number("2"), "\u00e9", number("3")), "{\"A\":1,\"a\":2,\"\u00e9\":3}"},
		{array(object("a", array(object("b", array())))), `[{"a":[{"b":[]}]}]`},
	} {
		wantText(t, x.v, x.want)
		wantText(t, array(x.v, x.v), "["+x.want+","+x.want+"]")
		wantText(t, object("x", x.v, "y", x.v), `{"x":`+x.want+`,"y":`+x.want+"}")
	}
}

func TestP152EachByte(t *testing.T) {
	for c := range 128 {
		b := string([]byte{byte(c)})
		want := b
		switch {
		case c < 32:
			want = fmt.Sprintf(`\u00%02x`, c)
		case c == '"' || c == '\\':
			want = `\` + b
		}
		wantText(t, text(b), `"`+want+`"`)
		wantText(t, text("a"+b+b+"c"), `"a`+want+want+`c"`)
		wantText(t, object(b, text(b)), `{"`+want+`":"`+want+`"}`)
	}
	for x := rune(128); x < 0x30000; x += 37 {
		if x < 55296 || x > 57343 {
			wantText(t, text(string(x)), `"`+string(x)+`"`)
		}
	}
}

func TestP152TextOfDeepOnes(t *testing.T) {
	for _, deep := range []int{16, 17, 18, 40, 1000} {
		wantText(t, nest(text("x"), deep), textAsTold(nest(text("x"), deep)))
	}
	const deep = 1 << 16
	v, w := array(), object()
	for range deep - 1 {
		v, w = array(v), object("", w)
	}
	if got := json.Text(v); got != strings.Repeat("[", deep)+strings.Repeat("]", deep) {
		t.Errorf("%s", brief(got))
	}
	if got := json.Text(w); got != strings.Repeat(`{"":`, deep-1)+"{}"+strings.Repeat("}", deep-1) {
		t.Errorf("%s", brief(got))
	}
}

func TestP152TextOfLongOnes(t *testing.T) {
	v := array()
	for i := range 20000 {
		v.Items = append(v.Items, number(fmt.Sprint(i)), text(fmt.Sprint(i)))
	}
	wantText(t, v, textAsTold(v))
	wantText(t, text(strings.Repeat("\"\\\n", 100000)), `"`+strings.Repeat(`\"\\\u000a`, 100000)+`"`)
}

func wantFind(t *testing.T, v json.Value, name string, want int, is bool) {
	t.Helper()
	if n, ok := json.Find(v, name); n != want || ok != is {
		t.Errorf("Find of %q in %s: %d, %v, want %d, %v", name, show(v), n, ok, want, is)
	}
}

// findAsTold counts.
func findAsTold(v json.Value, name string) (int, bool) {
	n, is := 0, false
	for _, x := range v.Names {
		if x < name {
			n++
		}
		is = is || x == name
	}
	return n, is
}

func TestP152Find(t *testing.T) {
	v := valueOf(t, "{\"b\":1,\"d\":{\"a\":1,\"z\":2},\"B\":3,\"bb\":4,\"\u00e9\":5}")
	for name, want := range map[string]int{"B": 0, "b": 1, "bb": 2, "d": 3, "\u00e9": 4} {
		wantFind(t, v, name, want, true)
	}
	for name, want := range map[string]int{"": 0, "A": 0, "\x00": 0, "a": 1, "BB": 1, "C": 1, "ba": 2, "b\x00": 2, "bba": 3, "c": 3, "bc": 3, "d\x00": 4, "da": 4, "e": 4, "z": 4, "\u00e8": 4, "\u00ea": 5, "\u00e9a": 5, "\xff": 5, "\xc3": 4, "\U0010ffff": 5} {
		wantFind(t, v, name, want, false)
	}
	wantFind(t, object("", number("1")), "", 0, true)
	wantFind(t, object("", number("1")), "a", 1, false)
	wantFind(t, object("", number("1"), "a", number("2")), "a", 1, true)
	wantFind(t, object(), "", 0, false)
	wantFind(t, object(), "a", 0, false)
	wantFind(t, valueOf(t, `{"\u0061\n":1}`), "a\n", 0, true)
	wantFind(t, valueOf(t, `{"\u0061\n":1}`), `a\n`, 1, false)
}

func TestP152FindOfNoObject(t *testing.T) {
	for s, v := range kinds() {
		if v.Kind == json.Object {
			continue
		}
		for _, name := range []string{"", "a", "null", "1", "0", "length", s} {
			wantFind(t, v, name, 0, false)
		}
	}
	for _, kind := range []int{json.Null, json.Bool, json.Number, json.String, json.Array, -1, 6} {
		wantFind(t, json.Value{Kind: kind, Names: []string{"a", "b"}, Items: []json.Value{{}, {}}}, "b", 0, false)
		wantFind(t, json.Value{Kind: kind, Names: []string{"a", "b"}, Items: []json.Value{{}, {}}}, "c", 0, false)
	}
}

// Objects of up to 40 names: each one, and what stands just ahead of and behind it.
func TestP152FindEach(t *testing.T) {
	for n := range 41 {
		v := object()
		for i := range n {
			v.Names = append(v.Names, fmt.Sprintf("n%02d", 2*i+1))
			v.Items = append(v.Items, number(fmt.Sprint(i)))
		}
		for i := range 2*n + 2 {
			for _, name := range []string{fmt.Sprintf("n%02d", i), fmt.Sprintf("n%02d ", i), fmt.Sprintf("n%02d", i)[:2], fmt.Sprintf("m%02d", i), fmt.Sprintf("o%02d", i), ""} {
				want, is := findAsTold(v, name)
				wantFind(t, v, name, want, is)
			}
		}
	}
	chance := rand.New(rand.NewPCG(15, 4))
	for range 20000 {
		v, name := someValue(chance, 2), someString(chance)
		want, is := findAsTold(v, name)
		wantFind(t, v, name, want, is)
	}
}

// P15.2, P15.3: what is handed in isn't changed, and what it has not matters not; values that Parse can't tell have some answer, always the same.
func TestP152OfWhatIsNoValue(t *testing.T) {
	n := num.Num{Digits: "015", Exp: 2000}
	l := []json.Value{{Kind: -1}, {Kind: 6}, {Kind: 1 << 40}, {Kind: json.Number, Num: n}, {Kind: json.Number, Num: num.Num{Digits: "x"}}, {Kind: json.String, Text: "\xff\xc3"}, {Kind: json.Array, Items: []json.Value{{Kind: 9}}}, {Kind: json.Array, Names: []string{"a"}},
		{Kind: json.Object, Names: []string{"a", "b"}}, {Kind: json.Object, Items: []json.Value{{}, {}}}, {Kind: json.Object, Names: []string{"b", "a", "a"}, Items: []json.Value{{}, {}, {}}}, {Kind: json.Object, Names: []string{"a"}, Items: []json.Value{{}, {}}}, {Kind: json.Object, Names: []string{"a", "b"}, Items: []json.Value{{}}},
		{Kind: json.Null, Is: true, Num: n, Text: "x", Items: []json.Value{{}}, Names: []string{"a"}}, {Kind: json.Bool, Text: "x"}, {}, array(), object(), object("a", text("a"))}
	for _, v := range l {
		was := fmt.Sprintf("%#v", v)
		if json.Text(v) != json.Text(v) {
			t.Errorf("%s: another text", show(v))
		}
		for _, name := range []string{"", "a", "b", "z"} {
			i, is := json.Find(v, name)
			if j, ok := json.Find(v, name); i != j || is != ok {
				t.Errorf("%s: another place", show(v))
			}
		}
		for _, w := range l {
			if c := json.Compare(v, w); c < -1 || c > 1 || json.Compare(v, w) != c || json.Compare(w, v) != -c {
				t.Errorf("%s, %s: %d", show(v), show(w), c)
			}
		}
		if now := fmt.Sprintf("%#v", v); now != was {
			t.Errorf("%s was changed: %s", was, now)
		}
	}
}

func TestP152ChangesNothing(t *testing.T) {
	chance := rand.New(rand.NewPCG(15, 5))
	for range 5000 {
		v, w := someValue(chance, 4), someValue(chance, 4)
		a, b := fmt.Sprintf("%#v", v), fmt.Sprintf("%#v", w)
		json.Text(v)
		json.Compare(v, w)
		json.Compare(v, v)
		json.Find(v, "a")
		if fmt.Sprintf("%#v", v) != a || fmt.Sprintf("%#v", w) != b {
			t.Fatalf("%s or %s was changed", a, b)
		}
	}
}

// P15.4

// wantBack holds that a Text that isn't too long is parsed as its value.
func wantBack(t *testing.T, v json.Value) {
	t.Helper()
	s := json.Text(v)
	got, e := json.Parse(s)
	if len(s) > 4096 {
		if e != api.ErrBig {
			t.Errorf("a text of %d bytes: error %d", len(s), e)
		}
		return
	}
	if e != api.OK || !same(got, v) {
		t.Errorf("%s, put as %s: %s, error %d", show(v), brief(s), show(got), e)
	}
	if json.Text(got) != s || json.Compare(got, v) != 0 {
		t.Errorf("%s: another text, or not alike", brief(s))
	}
}

func TestP154ATextIsParsedAsItsValue(t *testing.T) {
	for _, v := range kinds() {
		wantBack(t, v)
	}
	for deep := range 17 {
		wantBack(t, nest(text("\""), deep))
	}
	for x := rune(0); x < 0x11000; x++ {
		if x < 55296 || x > 57343 {
			wantBack(t, text(string(x)))
		}
	}
	wantBack(t, text(strings.Repeat("\x00", 682)))
	wantBack(t, text(strings.Repeat("\x00", 683)))
	wantBack(t, text(strings.Repeat("a", 4094)))
	wantBack(t, text(strings.Repeat("a", 4095)))
	chance := rand.New(rand.NewPCG(15, 6))
	for range 50000 {
		v := someValue(chance, 5)
		wantBack(t, v)
		if got, e := json.Parse(someText(chance, v)); e != api.ErrBig && (e != api.OK || json.Text(got) != json.Text(v)) {
			t.Errorf("%s: %s, error %d", show(v), show(got), e)
		}
	}
}

// A text that is deeper than may be is still a text, but isn't parsed.
func TestP154DeepOnesAreNotParsed(t *testing.T) {
	for _, deep := range []int{17, 18, 40} {
		if v, e := json.Parse(json.Text(nest(number("1"), deep))); e != api.ErrDeep || !reflect.DeepEqual(v, json.Value{}) {
			t.Errorf("%d deep: error %d", deep, e)
		}
	}
}

// Two values are alike just if their texts are the same.
func TestP154AlikeAndTexts(t *testing.T) {
	l := risingOnes(t)
	for i, v := range l {
		for j, w := range l {
			if (json.Text(v) == json.Text(w)) != (i == j) || (json.Compare(v, w) == 0) != (i == j) {
				t.Errorf("%s, %s: alike, or not", show(v), show(w))
			}
		}
	}
	chance := rand.New(rand.NewPCG(15, 7))
	alike := 0
	for range 100000 {
		v, w := someValue(chance, 2), someValue(chance, 2)
		is := same(v, w)
		if is {
			alike++
		}
		if (json.Text(v) == json.Text(w)) != is || (json.Compare(v, w) == 0) != is {
			t.Errorf("%s, %s: alike, or not", show(v), show(w))
		}
	}
	if alike < 1000 {
		t.Errorf("only %d times alike", alike)
	}
}
