package json_test

import (
	"cmp"
	stdjson "encoding/json"
	"fmt"
	"math/big"
	"math/rand/v2"
	"reflect"
	"sort"
	"strings"
	"testing"
	"unicode/utf16"
	"unicode/utf8"

	"rubricator/api"
	"rubricator/json"
	"rubricator/num"
)

// The words of the chapter, told again: a text is gone through sign by sign, with a row of what is open, and what may stand next.

const (
	mayValue = iota // a value
	mayFirst        // a value, or the bracket that ends
	mayEnd          // a comma, or the bracket that ends; nothing where none is open
	mayName         // a name
	mayBegin        // a name, or the bracket that ends
	mayColon
)

type place struct {
	object bool
	names  []string // as they came
	items  []json.Value
}

type teller struct {
	open []place
	may  int
	told []json.Value // the value of it all, once it is there
}

func parseAsTold(s string) (json.Value, api.Errno) {
	if len(s) > 4096 {
		return json.Value{}, api.ErrBig
	}
	t := teller{}
	for {
		s = strings.TrimLeft(s, " \t\n\r")
		if s == "" {
			break
		}
		n, e := t.next(s)
		if e != api.OK {
			return json.Value{}, e
		}
		s = s[n:]
	}
	if len(t.told) == 0 {
		return json.Value{}, api.ErrForm
	}
	return t.told[0], api.OK
}

// next takes what stands next, and tells how many bytes it has.
func (t *teller) next(s string) (int, api.Errno) {
	c := s[0]
	switch {
	case len(t.told) > 0:
		return 0, api.ErrForm
	case t.may == mayColon:
		t.may = mayValue
		return 1, formUnless(c == ':')
	case t.may == mayName || t.may == mayBegin:
		if c == '}' && t.may == mayBegin {
			return 1, t.close()
		}
		return t.name(s)
	case t.may == mayEnd || t.may == mayFirst && c == ']':
		return 1, t.behind(c)
	}
	return t.value(s)
}

func (t *teller) name(s string) (int, api.Errno) {
	name, n := stringAsTold(s)
	if n == 0 {
		return 0, api.ErrForm
	}
	p := &t.open[len(t.open)-1]
	for _, x := range p.names {
		if x == name {
			return 0, api.ErrTwice
		}
	}
	p.names = append(p.names, name)
	t.may = mayColon
	return n, api.OK
}

func (t *teller) behind(c byte) api.Errno {
	p := t.open[len(t.open)-1]
	switch {
	case c == ',' && p.object:
		t.may = mayName
		return api.OK
	case c == ',':
		t.may = mayValue
		return api.OK
	case c == ']' && !p.object || c == '}' && p.object:
		return t.close()
	}
	return api.ErrForm
}

func (t *teller) value(s string) (int, api.Errno) {
	for _, x := range []struct {
		text string
		v    json.Value
	}{{"null", json.Value{}}, {"true", json.Value{Kind: json.Bool, Is: true}}, {"false", json.Value{Kind: json.Bool}}} {
		if strings.HasPrefix(s, x.text) {
			return len(x.text), t.put(x.v)
		}
	}
	switch c := s[0]; {
	case c == '[' || c == '{':
		if len(t.open) == 16 {
			return 0, api.ErrDeep
		}
		t.open = append(t.open, place{object: c == '{'})
		t.may = map[byte]int{'[': mayFirst, '{': mayBegin}[c]
		return 1, api.OK
	case c == '"':
		text, n := stringAsTold(s)
		if n == 0 {
			return 0, api.ErrForm
		}
		return n, t.put(json.Value{Kind: json.String, Text: text})
	case c == '-' || c >= '0' && c <= '9':
		n := 0
		for n < len(s) && strings.IndexByte("0123456789+-.eE", s[n]) >= 0 {
			n++
		}
		x, e := num.Parse(s[:n])
		if e != api.OK {
			return 0, e
		}
		return n, t.put(json.Value{Kind: json.Number, Num: x})
	}
	return 0, api.ErrForm
}

// close takes what was opened last for a value.
func (t *teller) close() api.Errno {
	p := t.open[len(t.open)-1]
	t.open = t.open[:len(t.open)-1]
	if !p.object {
		return t.put(json.Value{Kind: json.Array, Items: p.items})
	}
	at := make([]int, len(p.names))
	for i := range at {
		at[i] = i
	}
	sort.Slice(at, func(i, j int) bool { return p.names[at[i]] < p.names[at[j]] })
	v := json.Value{Kind: json.Object}
	for _, i := range at {
		v.Names = append(v.Names, p.names[i])
		v.Items = append(v.Items, p.items[i])
	}
	return t.put(v)
}

func (t *teller) put(v json.Value) api.Errno {
	t.may = mayEnd
	if len(t.open) == 0 {
		t.told = []json.Value{v}
		return api.OK
	}
	p := &t.open[len(t.open)-1]
	p.items = append(p.items, v)
	return api.OK
}

func formUnless(ok bool) api.Errno {
	if ok {
		return api.OK
	}
	return api.ErrForm
}

// stringAsTold finds the quote that ends first; then it holds all between for UTF-8, and takes it apart.
func stringAsTold(s string) (string, int) {
	if s[0] != '"' {
		return "", 0
	}
	end := 1
	for ; end < len(s) && s[end] != '"'; end++ {
		if s[end] == '\\' {
			end++
		}
	}
	if end >= len(s) || !utf8.ValidString(s[1:end]) {
		return "", 0
	}
	b, ok := plain(s[1:end])
	if !ok {
		return "", 0
	}
	return b, end + 1
}

func plain(s string) (string, bool) {
	b := ""
	for s != "" {
		switch {
		case s[0] < 32:
			return "", false
		case s[0] != '\\':
			b, s = b+s[:1], s[1:]
		case s[1] != 'u':
			i := strings.IndexByte("\"\\/bfnrt", s[1])
			if i < 0 {
				return "", false
			}
			b, s = b+"\"\\/\x08\x0c\x0a\x0d\x09"[i:i+1], s[2:]
		default:
			x, ok := unit(s)
			if !ok {
				return "", false
			}
			s = s[6:]
			if utf16.IsSurrogate(x) {
				y, ok := unit(s)
				if x = utf16.DecodeRune(x, y); !ok || x == utf8.RuneError {
					return "", false
				}
				s = s[6:]
			}
			b += string(x)
		}
	}
	return b, true
}

func unit(s string) (rune, bool) {
	if len(s) < 6 || s[:2] != `\u` {
		return 0, false
	}
	x := 0
	for _, c := range []byte(s[2:6]) {
		i := strings.IndexByte("0123456789abcdefABCDEF", c)
		if i < 0 {
			return 0, false
		}
		if i > 15 {
			i -= 6
		}
		x = 16*x + i
	}
	return rune(x), true
}

func textAsTold(v json.Value) string {
	var l []string
	switch v.Kind {
	case json.Bool:
		return fmt.Sprint(v.Is)
	case json.Number:
		return num.Text(v.Num)
	case json.String:
		return quotedAsTold(v.Text)
	case json.Array:
		for _, x := range v.Items {
			l = append(l, textAsTold(x))
		}
		return "[" + strings.Join(l, ",") + "]"
	case json.Object:
		for i, x := range v.Items {
			l = append(l, quotedAsTold(v.Names[i])+":"+textAsTold(x))
		}
		return "{" + strings.Join(l, ",") + "}"
	}
	return "null"
}

func quotedAsTold(s string) string {
	s = strings.ReplaceAll(s, `\`, `\\`)
	s = strings.ReplaceAll(s, `"`, `\"`)
	for c := range 32 {
		s = strings.ReplaceAll(s, string(rune(c)), fmt.Sprintf(`\u%04x`, c))
	}
	return `"` + s + `"`
}

// An atom is a part of a value, as it is held against another one's: a number and a text, that just one of them has, or a number without bounds.
type atom struct {
	x    int
	text string
	big  *big.Int
}

// atomsOf is a row of parts for a value: rows stand as their values do.
func atomsOf(v json.Value) []atom {
	l := []atom{{x: v.Kind}}
	switch v.Kind {
	case json.Bool:
		if v.Is {
			return append(l, atom{x: 1})
		}
		return append(l, atom{x: 0})
	case json.Number:
		return append(l, atom{big: whole(v.Num)})
	case json.String:
		return append(l, atom{text: v.Text})
	}
	for i, x := range v.Items {
		l = append(l, atom{x: 1})
		if v.Kind == json.Object {
			l = append(l, atom{text: v.Names[i]})
		}
		l = append(l, atomsOf(x)...)
	}
	return append(l, atom{x: 0})
}

// whole is a number times 10 to the power of 999.
func whole(n num.Num) *big.Int {
	x, _ := new(big.Int).SetString("0"+n.Digits, 10)
	if n.Down {
		x.Neg(x)
	}
	return x.Mul(x, new(big.Int).Exp(big.NewInt(10), big.NewInt(int64(n.Exp+999)), nil))
}

func compareAsTold(a, b json.Value) int {
	l, m := atomsOf(a), atomsOf(b)
	for i := range min(len(l), len(m)) {
		x, y := l[i], m[i]
		c := cmp.Or(cmp.Compare(x.x, y.x), cmp.Compare(x.text, y.text))
		if c == 0 && x.big != nil && y.big != nil {
			c = x.big.Cmp(y.big)
		}
		if c != 0 {
			return c
		}
	}
	return cmp.Compare(len(l), len(m))
}

// same holds values against each other, part by part; nil lists and empty ones are one.
func same(a, b json.Value) bool {
	if a.Kind != b.Kind || a.Is != b.Is || a.Num != b.Num || a.Text != b.Text || len(a.Items) != len(b.Items) || len(a.Names) != len(b.Names) {
		return false
	}
	for i := range a.Items {
		if !same(a.Items[i], b.Items[i]) {
			return false
		}
	}
	for i := range a.Names {
		if a.Names[i] != b.Names[i] {
			return false
		}
	}
	return true
}

// right tells whether v has just what is of its Kind.
func right(v json.Value) bool {
	c := json.Value{Kind: v.Kind}
	switch v.Kind {
	case json.Bool:
		c.Is = v.Is
	case json.Number:
		c.Num = v.Num
	case json.String:
		c.Text = v.Text
	case json.Array:
		c.Items = v.Items
	case json.Object:
		c.Items, c.Names = v.Items, v.Names
		if len(v.Names) != len(v.Items) || !sort.StringsAreSorted(v.Names) {
			return false
		}
		for i := 1; i < len(v.Names); i++ {
			if v.Names[i] == v.Names[i-1] {
				return false
			}
		}
	case json.Null:
	default:
		return false
	}
	for _, x := range v.Items {
		if !right(x) {
			return false
		}
	}
	return same(v, c) && utf8.ValidString(v.Text) && num.Right(v.Num)
}

// likeTheLibrary holds a value against what the library reads of its text.
func likeTheLibrary(s string, v json.Value) bool {
	d := stdjson.NewDecoder(strings.NewReader(s))
	d.UseNumber()
	var x any
	return d.Decode(&x) == nil && reflect.DeepEqual(x, plainOf(v, x))
}

// plainOf is a value as the library has it; of numbers, that it keeps as texts, its own text, if that is the number's.
func plainOf(v json.Value, x any) any {
	switch v.Kind {
	case json.Bool:
		return v.Is
	case json.Number:
		if s, ok := x.(stdjson.Number); ok {
			if n, e := num.Parse(string(s)); e == api.OK && n == v.Num {
				return s
			}
		}
		return v.Num
	case json.String:
		return v.Text
	case json.Array:
		l := []any{}
		m, _ := x.([]any)
		for i, y := range v.Items {
			l = append(l, plainOf(y, at(m, i)))
		}
		return l
	case json.Object:
		o := map[string]any{}
		m, _ := x.(map[string]any)
		for i, y := range v.Items {
			o[v.Names[i]] = plainOf(y, m[v.Names[i]])
		}
		return o
	}
	return nil
}

func at(l []any, i int) any {
	if i < len(l) {
		return l[i]
	}
	return nil
}

// What the tests are made of.

// wantAsTold holds Parse against the chapter's words; the error that they tell.
func wantAsTold(t *testing.T, s string) api.Errno {
	t.Helper()
	want, e := parseAsTold(s)
	got, f := json.Parse(s)
	if !same(got, want) || f != e {
		t.Errorf("Parse of %s: %s, error %d, want %s, error %d", brief(s), show(got), f, show(want), e)
	}
	if e == api.OK && !likeTheLibrary(s, want) {
		t.Errorf("%s: the test itself is wrong: %s", brief(s), show(want))
	}
	if e == api.OK && !right(got) {
		t.Errorf("Parse of %s: %s, which is no value", brief(s), show(got))
	}
	return e
}

// wantParse wants a value of a text.
func wantParse(t *testing.T, s string, want json.Value) {
	t.Helper()
	wantAsTold(t, s)
	if v, e := json.Parse(s); !same(v, want) || e != api.OK {
		t.Errorf("Parse of %s: %s, error %d, want %s", brief(s), show(v), e, show(want))
	}
}

// wantErr wants an error of texts, and no value.
func wantErr(t *testing.T, e api.Errno, l ...string) {
	t.Helper()
	for _, s := range l {
		wantAsTold(t, s)
		if v, got := json.Parse(s); !reflect.DeepEqual(v, json.Value{}) || got != e {
			t.Errorf("Parse of %s: %s, error %d, want error %d", brief(s), show(v), got, e)
		}
	}
}

func wantForm(t *testing.T, l ...string) {
	t.Helper()
	wantErr(t, api.ErrForm, l...)
}

func wantText(t *testing.T, v json.Value, want string) {
	t.Helper()
	if got := json.Text(v); got != want {
		t.Errorf("Text of %s: %s, want %s", show(v), brief(got), brief(want))
	}
	if textAsTold(v) != want {
		t.Errorf("%s: the test itself is wrong", show(v))
	}
}

// wantCompare holds two either way round.
func wantCompare(t *testing.T, a, b json.Value, want int) {
	t.Helper()
	if got := json.Compare(a, b); got != want {
		t.Errorf("Compare of %s and %s: %d, want %d", show(a), show(b), got, want)
	}
	if got := json.Compare(b, a); got != -want {
		t.Errorf("Compare of %s and %s: %d, want %d", show(b), show(a), got, -want)
	}
	if compareAsTold(a, b) != want {
		t.Errorf("%s and %s: the test itself is wrong", show(a), show(b))
	}
}

// brief is a text, as it is told of: not all of it, if it is very long.
func brief(s string) string {
	if len(s) > 300 {
		return fmt.Sprintf("%q and so on, %d bytes", s[:200], len(s))
	}
	return fmt.Sprintf("%q", s)
}

func show(v json.Value) string { return brief(fmt.Sprintf("%+v", v)) }

func valueOf(t *testing.T, s string) json.Value {
	t.Helper()
	v, e := json.Parse(s)
	if e != api.OK {
		t.Fatalf("Parse of %s: error %d", brief(s), e)
	}
	return v
}

// The makers of values.

func boolean(is bool) json.Value       { return json.Value{Kind: json.Bool, Is: is} }
func text(s string) json.Value         { return json.Value{Kind: json.String, Text: s} }
func array(l ...json.Value) json.Value { return json.Value{Kind: json.Array, Items: l} }

func number(s string) json.Value {
	n, e := num.Parse(s)
	if e != api.OK {
		panic("the test itself is wrong: " + s)
	}
	return json.Value{Kind: json.Number, Num: n}
}

// object is one of names, that must rise, and items, by turns.
func object(l ...any) json.Value {
	v := json.Value{Kind: json.Object}
	for i := 0; i < len(l); i += 2 {
		v.Names = append(v.Names, l[i].(string))
		v.Items = append(v.Items, l[i+1].(json.Value))
	}
	return v
}

// nest lays so many arrays and objects by turns around a value.
func nest(v json.Value, n int) json.Value {
	for i := range n {
		if i%2 == 0 {
			v = array(v)
		} else {
			v = object("a", v)
		}
	}
	return v
}

func some[T any](chance *rand.Rand, l ...T) T { return l[chance.IntN(len(l))] }

func someString(chance *rand.Rand) string {
	s := ""
	for range chance.IntN(4) {
		s += some(chance, "a", "b", "ab", " ", "\u00e9", "\u20ac", "\U0001F600", "\"", "\\", "/", "\x00", "\n", "\x1f", "\x7f", "\ufffd", "\uffff", "\ud7ff", "\ue000", "\U0010FFFF", "null", "{", "1")
	}
	return s
}

// someValue is a value by chance; small ones are often alike.
func someValue(chance *rand.Rand, deep int) json.Value {
	kinds := 6
	if deep == 0 {
		kinds = 4
	}
	switch chance.IntN(kinds) {
	case 0:
		return json.Value{}
	case 1:
		return boolean(chance.IntN(2) == 0)
	case 2:
		return number(some(chance, "0", "1", "-1", "10", "1.5", "-15e-3", "1e999", "1e-999", fmt.Sprint(chance.IntN(1000)), strings.Repeat("7", 40)))
	case 3:
		return text(someString(chance))
	case 4:
		v := array()
		for range chance.IntN(4) {
			v.Items = append(v.Items, someValue(chance, deep-1))
		}
		return v
	}
	names := map[string]bool{}
	for range chance.IntN(4) {
		names[someString(chance)] = true
	}
	v := object()
	for name := range names {
		v.Names = append(v.Names, name)
	}
	sort.Strings(v.Names)
	for range v.Names {
		v.Items = append(v.Items, someValue(chance, deep-1))
	}
	return v
}

// someText is a text of a value by chance: with blanks, members in any order, and signs in any way.
func someText(chance *rand.Rand, v json.Value) string {
	blank := func() string {
		return strings.Repeat(some(chance, "", "", "", " ", "\t", "\n", "\r", "\r\n"), 1+chance.IntN(2))
	}
	s := ""
	switch v.Kind {
	case json.Number:
		s = num.Text(v.Num)
		if v.Num.Exp == 0 {
			s += some(chance, "", ".0", "e0", "E+00", ".000e-0")
		}
	case json.String:
		s = someQuoted(chance, v.Text)
	case json.Array:
		l := []string{}
		for _, x := range v.Items {
			l = append(l, someText(chance, x))
		}
		s = "[" + blank() + strings.Join(l, ",") + "]"
	case json.Object:
		l := []string{}
		for _, i := range chance.Perm(len(v.Items)) {
			l = append(l, blank()+someQuoted(chance, v.Names[i])+blank()+":"+someText(chance, v.Items[i]))
		}
		s = "{" + blank() + strings.Join(l, ",") + "}"
	default:
		s = textAsTold(v)
	}
	return blank() + s + blank()
}

func someQuoted(chance *rand.Rand, s string) string {
	out := ""
	for _, c := range s {
		short := strings.IndexRune("\"\\/\b\f\n\r\t", c)
		switch way := chance.IntN(3); {
		case way == 0 && short >= 0:
			out += "\\" + "\"\\/bfnrt"[short:short+1]
		case way == 1 || c < 32 || c == '"' || c == '\\':
			for _, x := range utf16.Encode([]rune{c}) {
				out += some(chance, fmt.Sprintf(`\u%04x`, x), fmt.Sprintf(`\u%04X`, x))
			}
		default:
			out += string(c)
		}
	}
	return `"` + out + `"`
}
