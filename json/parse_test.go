package json_test

import (
	"fmt"
	"math/rand/v2"
	"sort"
	"strings"
	"testing"
	"unsafe"

	"rubricator/api"
	"rubricator/json"
)

// P15.1: values, blanks, arrays, objects, and which error is told. Strings stand in string_test.go.

var blankOnes = []string{" ", "\t", "\n", "\r"}

// noBlanks are signs that some would take for blanks, and others.
var noBlanks = []string{"\x00", "\x01", "\x08", "\x0b", "\x0c", "\x0e", "\x1c", "\x1f", "\x7f", "\x85", "\xa0", "\u0085", "\u00a0", "\u2003", "\u2028", "\u3000", "\ufeff", "\xff", "/**/", "//\n", "#\n", "\\n", "x", "'", "_"}

func TestP151Examples(t *testing.T) {
	wantParse(t, `{"b":1.0,"a":[]}`, object("a", array(), "b", number("1")))
}

func kinds() map[string]json.Value {
	return map[string]json.Value{
		`null`: {}, `true`: boolean(true), `false`: boolean(false),
		`0`: number("0"), `-0`: number("0"), `7`: number("7"), `1500`: number("15e2"), `-0.250`: number("-25e-2"), `1E+2`: number("1e2"), `1e-999`: number("1e-999"), `1234567890123456789012345678901234567891`: number("1234567890123456789012345678901234567891"),
		`""`: text(""), `"a"`: text("a"), `"null"`: text("null"), `" "`: text(" "), `"[1,2]"`: text("[1,2]"),
		`[]`: array(), `[1]`: array(number("1")), `[null]`: array(json.Value{}), `[[]]`: array(array()), `[{}]`: array(object()), `[1,"a",true]`: array(number("1"), text("a"), boolean(true)), `[1,1]`: array(number("1"), number("1")),
		`{}`: object(), `{"":1}`: object("", number("1")), `{"a":null}`: object("a", json.Value{}), `{"a":{}}`: object("a", object()), `{"a":[]}`: object("a", array()), `{"a":1,"b":"a","c":false}`: object("a", number("1"), "b", text("a"), "c", boolean(false)), `{"a":1,"ab":1}`: object("a", number("1"), "ab", number("1")),
	}
}

// Values of each Kind, alone, and within arrays and objects.
func TestP151Kinds(t *testing.T) {
	for s, v := range kinds() {
		wantParse(t, s, v)
		wantParse(t, "["+s+"]", array(v))
		wantParse(t, "["+s+","+s+"]", array(v, v))
		wantParse(t, "[0,"+s+",1]", array(number("0"), v, number("1")))
		wantParse(t, `{"x":`+s+`}`, object("x", v))
		wantParse(t, `{"x":`+s+`,"y":`+s+`}`, object("x", v, "y", v))
		wantParse(t, `[{"x":[`+s+`]}]`, array(object("x", array(v))))
		for r, w := range kinds() {
			wantParse(t, "["+s+","+r+"]", array(v, w))
			wantParse(t, `{"y":`+s+`,"x":`+r+`}`, object("x", w, "y", v))
			wantForm(t, s+","+r, s+" "+r, s+"\n"+r, "["+s+" "+r+"]", `{"x":`+s+` `+r+`}`, `{`+s+`:`+r)
		}
	}
}

// What is of another Kind is empty.
func TestP151EmptyElse(t *testing.T) {
	for s := range kinds() {
		if v, _ := json.Parse(s); !right(v) {
			t.Errorf("Parse of %s: %s, which is no value", s, show(v))
		}
	}
}

// parts are texts in parts, between which blanks may stand.
func parts() [][]string {
	return [][]string{
		{"null"}, {"true"}, {"false"}, {"-1.5e3"}, {`"a b"`}, {"[", "]"}, {"{", "}"}, {"[", "1", "]"}, {"[", "1", ",", "2", "]"}, {"[", `"a"`, ",", "null", ",", "[", "]", "]"},
		{"{", `"a"`, ":", "1", "}"}, {"{", `"b"`, ":", "1", ",", `"a"`, ":", "[", "{", "}", ",", "true", "]", "}"}, {"[", "{", `"a"`, ":", "{", `"a"`, ":", `""`, "}", "}", "]"},
	}
}

func TestP151Blanks(t *testing.T) {
	for _, l := range parts() {
		want := valueOf(t, strings.Join(l, ""))
		for _, b := range append(blankOnes, "  ", " \t\n\r", "\r\n", "\n\n\t ", strings.Repeat(" ", 200)) {
			wantParse(t, b+strings.Join(l, b)+b, want)
			for i := range len(l) + 1 {
				wantParse(t, strings.Join(l[:i], "")+b+strings.Join(l[i:], ""), want)
			}
		}
		for _, b := range noBlanks {
			for i := range len(l) + 1 {
				s := strings.Join(l[:i], "") + b + strings.Join(l[i:], "")
				wantForm(t, s, strings.Join(l[:i], "")+" "+b+strings.Join(l[i:], ""), strings.Join(l[:i], "")+b+" "+strings.Join(l[i:], ""))
			}
		}
	}
}

// Each byte, wherever blanks may stand: four are blanks.
func TestP151EachByteBetween(t *testing.T) {
	for c := range 256 {
		b := string([]byte{byte(c)})
		for _, l := range parts() {
			for i := range len(l) + 1 {
				e := wantAsTold(t, strings.Join(l[:i], "")+b+strings.Join(l[i:], ""))
				if strings.Contains(" \t\n\r", b) != (e == api.OK) && !strings.Contains("0123456789-", b) {
					t.Errorf("byte %d ahead of part %d of %q: error %d", c, i, l, e)
				}
			}
		}
	}
}

// Blanks that are within a word, or a number, end it.
func TestP151BlanksWithin(t *testing.T) {
	for _, b := range blankOnes {
		wantForm(t, "nu"+b+"ll", "t"+b+"rue", "fals"+b+"e", "1"+b+"2", "-"+b+"1", "1"+b+".5", "1."+b+"5", "1e"+b+"5", "1"+b+"e5", "1e+"+b+"5", "["+b+"nul"+b+"l]", `["a"`+b+`"b"]`)
	}
}

func TestP151NoValue(t *testing.T) {
	wantForm(t, "", " ", "\t", "\n", "\r", " \t\n\r \t", strings.Repeat(" ", 4096))
	wantForm(t, ",", ":", "]", "}", ",,", "[,", "{,", "/", "'a'", "a", "undefined", "NaN", "nan", "Infinity", "-Infinity", "()", "<>", "\ufeff1", "\x00", "\xff", "+1", ".5", "e5", "E", "+", ".")
	for c := range 256 {
		b := string([]byte{byte(c)})
		if e := wantAsTold(t, b); (e == api.OK) != (c >= '0' && c <= '9') {
			t.Errorf("byte %d: error %d", c, e)
		}
		wantAsTold(t, b+"1")
		wantAsTold(t, "["+b+"]")
		wantAsTold(t, "[1,"+b+"]")
		wantAsTold(t, "{"+b+"}")
		wantAsTold(t, `{"a":`+b+"}")
		wantAsTold(t, `{"a":1,`+b+"}")
	}
}

// What stands behind a value.
func TestP151Behind(t *testing.T) {
	for s := range kinds() {
		for _, r := range append(noBlanks, ",", ":", "]", "}", "[", "{", `"`, `"a"`, "null", "n", "[]", "{}", ",1", ";", "\x00") {
			wantForm(t, s+r, s+" "+r, s+r+" ", s+"\n"+r+"\n")
		}
	}
	wantForm(t, "1,2", "1 2", "[1]]", "[1][", "{}}", "{} {}", `"a" "b"`, `"a""b"`, "nullnull", "truefalse", "null1", `null"a"`, `1"a"`, "1null", "1true", "[]1", "{}:1", `"a":1`)
}

func TestP151Literals(t *testing.T) {
	for _, w := range []string{"null", "true", "false"} {
		for i := range len(w) {
			for _, around := range [][2]string{{"", ""}, {"[", "]"}, {"[1,", ",1]"}, {`{"a":`, `}`}, {" ", " "}} {
				front, end := around[0], around[1]
				wantForm(t, front+strings.ToUpper(w)+end, front+strings.ToUpper(w[:i+1])+w[i+1:]+end, front+w[:i]+strings.ToUpper(w[i:])+end, front+w[:i]+w[i+1:]+end, front+w[i:i+1]+end, front+w[i:i+1]+w+end, front+w+w[i:]+end, front+w[:i]+"\\"+w[i:]+end, front+w[:i]+"\x00"+w[i:]+end)
				if i > 0 {
					wantForm(t, front+w[:i]+end, front+w[:i], front+w[:i]+" "+w[i:]+end)
				}
				for c := range 256 {
					if byte(c) != w[i] {
						if e := wantAsTold(t, front+w[:i]+string([]byte{byte(c)})+w[i+1:]+end); e != api.ErrForm {
							t.Errorf("%s with byte %d at %d: error %d", w, c, i, e)
						}
					}
				}
			}
		}
	}
}

// Numbers, at each byte of which they are cut off, by each byte.
func TestP151NumbersCutOff(t *testing.T) {
	for _, s := range []string{"0", "-0", "12", "-1.50", "1e5", "1E+05", "-10.25e-7", "0.5E-3"} {
		wantParse(t, s, number(s))
		for i := range len(s) + 1 {
			for c := range 256 {
				b := string([]byte{byte(c)})
				wantAsTold(t, s[:i]+b)
				wantAsTold(t, s[:i]+b+s[i:])
				wantAsTold(t, "["+s[:i]+b+"]")
				wantAsTold(t, "["+s[:i]+b+"1]")
				wantAsTold(t, `{"a":`+s[:i]+b+"}")
			}
			if i > 0 {
				wantAsTold(t, s[:i])
				wantAsTold(t, "["+s[:i]+"]")
				wantAsTold(t, "["+s[:i]+",1]")
				wantAsTold(t, `{"a":`+s[:i]+"}")
				wantAsTold(t, s[:i]+"\n")
			}
		}
	}
}

func TestP151NumbersWrong(t *testing.T) {
	for _, s := range []string{"-", "--1", "-+1", "-.5", "-e5", "01", "-01", "00", "1.", "1.e5", "1..5", "1.5.5", "1e", "1E", "1e+", "1e-", "1e+-5", "1e5e5", "1e5.5", "1-2", "1+2", "1-", "1+", "0e", "0.e1", "9-", "1eE5", "-0-0", "0+", strings.Repeat("-", 100), "1" + strings.Repeat(".", 100)} {
		wantForm(t, s, "["+s+"]", "[1,"+s+",1]", `{"a":`+s+"}", s+" ", "["+s, "["+s+"[", s+"x")
	}
	for _, s := range bigNumbers() {
		wantErr(t, api.ErrBig, s, " "+s+" ", "["+s+"]", "[1,"+s+",1]", `{"a":`+s+"}", "["+s, "["+s+"}", "["+s+" 1", s+",", s+"x", s+" x", s+`"`, s+"\x00", s+"\xff", s+"]", s+":", "["+s+",]", "["+s+",01]", s+"[", "{\"a\":"+s+",\"a\":1}", strings.Repeat("[", 16)+s+",[", s+strings.Repeat("[", 17))
		wantForm(t, s+"e", s+"-", s+".", "["+s+"+]", s+"-x", "0"+s+"x", "x"+s, "[1 "+s, `{`+s+`:1}`, `{"a" `+s, "["+s+"e1e1"+"]")
	}
}

func bigNumbers() []string {
	return []string{strings.Repeat("1", 41), "-" + strings.Repeat("1", 41), "1e1000", "1e-1000", "-1E+1000", "1" + strings.Repeat("0", 1000), "0." + strings.Repeat("0", 999) + "1", "1e99999999999999999999"}
}

// Numbers of a good many digits, and noughts, that are right.
func TestP151NumbersLong(t *testing.T) {
	forty := strings.Repeat("7", 40)
	for s, want := range map[string]string{
		forty: forty, "-" + forty + "e999": "-" + forty + "e999", forty + "e-999": forty + "e-999", "1" + strings.Repeat("0", 999): "1e999", "1." + strings.Repeat("0", 4094): "1", strings.Repeat("0", 1) + "e9999999": "0", "0." + strings.Repeat("0", 998) + "1": "1e-999",
	} {
		wantParse(t, s, number(want))
	}
}

func TestP151Commas(t *testing.T) {
	wantForm(t, "[,]", "[,1]", "[1,]", "[1,,2]", "[1,2,]", "[,,]", "[1 2]", "[1 2,3]", "[1;2]", "[1:2]", "[1.2.3]", `["a""b"]`, `["a" "b"]`, "[[][]]", "[[],]", "[[] []]", "[null true]", "[1,2 3]", "[ , 1]", "[1 , ]", "[1,\n]")
	wantForm(t, "{,}", `{,"a":1}`, `{"a":1,}`, `{"a":1,,"b":2}`, `{"a":1 "b":2}`, `{"a":1"b":2}`, `{"a":1;"b":2}`, `{"a":1,"b":2,}`, `{"a":1:"b":2}`, `{"a":{}"b":2}`, `{"a":1 , }`, `{ , "a":1}`)
}

func TestP151Brackets(t *testing.T) {
	wantForm(t, "[", "[[", "{", "{{", "[1", "[1,", "[1,2", "[[1]", "[[", "[{}", `{"a"`, `{"a":`, `{"a":1`, `{"a":1,`, `{"a":1,"b"`, `{"a":[1}`, `[{"a":1]`, "[ ", "[1 ", "[1, ")
	wantForm(t, "]", "}", "[}", "{]", "[1}", `{"a":1]`, "[[}]", "[[]}", "[{]}", `{"a":[}]`, "[]]", "{}}", "][", "}{", "(1)", "[1)", "(1]", "[]}", "{}]", "[{]]", "{[]}", "{{}}", "{{}:1}")
}

func TestP151Names(t *testing.T) {
	for _, x := range []string{"a", "1", "-1", "null", "true", "false", "[]", "{}", "'a'", "[", "{", ":", ",", "]", "a\"", "\\\"a\"", `"a`, `"a\"`, "\"\x1f\"", "\"\xff\"", `"\x"`, `"\ud800"`, "1e1000", "[\"a\"]"} {
		wantForm(t, "{"+x+":1}", "{"+x+"}", `{"b":1,`+x+":1}", "{ "+x, "{"+x+",1}")
	}
	wantForm(t, `{"a"}`, `{"a",}`, `{"a" 1}`, `{"a"=1}`, `{"a"::1}`, `{"a":}`, `{"a":,}`, `{:1}`, `{"a" "b":1}`, `{"a";1}`, `{"a":1:1}`, `{"a""b"}`, `{"a"1}`, `{"a"[]}`, `{"a"{}}`, `{"a"null}`, `{"a"`, `{"a" `, `{"a":`, `{"a": `, `{"a":1,"b"}`, `{"a":1,"b":}`, `{"a":1,"b" 2}`)
	wantParse(t, `{"null":null,"1":1,"[]":[],"":""}`, object("", text(""), "1", number("1"), "[]", array(), "null", json.Value{}))
}

func TestP151Twice(t *testing.T) {
	one, others := `{"a":1,`, []string{`"a"`, `"\u0061"`, ` "a"`, "\n\"a\""}
	for _, x := range others {
		wantErr(t, api.ErrTwice, one+x+":1}", one+x+" : 2 }", one+x, one+x+" ", one+x+"x", one+x+" x", one+x+"}", one+x+",", one+x+"1e1000", one+x+":", one+x+":x", one+x+":1e1000", one+x+":01}", one+x+`:"`, one+x+":[[[", one+x+":1]", one+x+":1}x", one+x+"\xff", one+x+"\x00", one+x+x, one+x+strings.Repeat("[", 17), one+x+":"+strings.Repeat("[", 17))
		wantErr(t, api.ErrTwice, `{"b":0,"a":[],"c":{},`+x+`:[]}`, `[{"a":1,`+x+`:1}]`, `{"z":{"a":{"a":1},`+x+`:1}}`, `{"a":1,"b":1,`+x+`:1`)
		wantForm(t, one+x[:len(x)-1], one+"x"+x, one+","+x, `{"a":1 `+x, `{"a":01,`+x, `{"a":1]`+x)
		wantErr(t, api.ErrBig, `{"a":1e1000,`+x, `{"a":[1e1000],`+x)
	}
	for name, other := range map[string]string{`""`: `""`, `"/"`: `"\/"`, `"\n"`: `"\u000a"`, `"\u000A"`: `"\u000a"`, `"\""`: `"\u0022"`, `"\\"`: `"\u005C"`, `"\u00e9"`: "\"\u00e9\"", `"\ud83d\ude00"`: "\"\U0001F600\"", `"\t"`: `"\u0009"`, `"\u0000"`: `"\u0000"`, "\"\ufffd\"": `"\uFFFD"`, "\"\x7f\"": `"\u007f"`} {
		wantErr(t, api.ErrTwice, "{"+name+":1,"+other+":1}", "{"+other+":1,"+name+":1}", "{"+other+":1,\"b\":2,"+name+"x", "{"+name+":1,"+name)
		wantParse(t, "[{"+name+":1},{"+other+":1}]", array(valueOf(t, "{"+name+":1}"), valueOf(t, "{"+other+":1}")))
	}
	// The same name in objects within each other, or beside, isn't twice; nor are names of which one begins the other, or in capitals.
	wantParse(t, `{"a":{"a":{"a":1}}}`, object("a", object("a", object("a", number("1")))))
	wantParse(t, `[{"a":1},{"a":1}]`, array(object("a", number("1")), object("a", number("1"))))
	wantParse(t, `{"a":1,"A":1,"aa":1,"":1,"a ":1," a":1}`, object("", number("1"), " a", number("1"), "A", number("1"), "a", number("1"), "a ", number("1"), "aa", number("1")))
	wantParse(t, `{"a":"a","b":"a"}`, object("a", text("a"), "b", text("a")))
	wantParse(t, "{\"e\u0301\":1,\"\u00e9\":2}", object("e\u0301", number("1"), "\u00e9", number("2")))
	wantParse(t, `{"a\u0000":1,"a":2}`, object("a", number("2"), "a\x00", number("1")))
}

// The name that is twice, at each place among many.
func TestP151TwiceAmongMany(t *testing.T) {
	l := []string{}
	for i := range 60 {
		l = append(l, fmt.Sprintf(`"n%d":%d`, i*37%60, i))
	}
	all := strings.Join(l, ",")
	if e := wantAsTold(t, "{"+all+"}"); e != api.OK {
		t.Errorf("error %d", e)
	}
	for i := range 60 {
		name := fmt.Sprintf(`"n%d"`, i)
		wantErr(t, api.ErrTwice, "{"+all+","+name+":1}", "{"+name+":1,"+all+"}")
		wantErr(t, api.ErrTwice, "{"+all+`,"n":1,`+name+"x")
	}
}

// Members, told in each order.
func TestP151Orders(t *testing.T) {
	names := []string{"", "A", "a", "ab", "b", "\u00e9"}
	want := object()
	for _, name := range names {
		want.Names = append(want.Names, name)
		want.Items = append(want.Items, array(text(name)))
	}
	n := 0
	var put func(l []string)
	put = func(l []string) {
		if len(l) == len(names) {
			n++
			s := []string{}
			for _, name := range l {
				s = append(s, `"`+name+`":["`+name+`"]`)
			}
			wantParse(t, "{"+strings.Join(s, ",")+"}", want)
			return
		}
		for _, name := range names {
			if !strings.Contains("|"+strings.Join(l, "|")+"|", "|"+name+"|") || len(l) == 0 {
				put(append(l[:len(l):len(l)], name))
			}
		}
	}
	put(nil)
	if n != 720 {
		t.Errorf("%d orders", n)
	}
	// Byte by byte, not sign by sign of other tables.
	wantParse(t, "{\"\U00010000\":1,\"\uffff\":2,\"\\u0000\":3,\"\x7f\":4,\"\u0080\":5,\"B\":6,\"a\":7}",
		object("\x00", number("3"), "B", number("6"), "a", number("7"), "\x7f", number("4"), "\u0080", number("5"), "\uffff", number("2"), "\U00010000", number("1")))
}

// open is so many brackets of the kinds that the bits of which tell, and what closes them.
func open(n, which int) (string, string) {
	front, end := "", ""
	for i := range n {
		if which>>i&1 == 0 {
			front, end = front+"[", "]"+end
		} else {
			front, end = front+`{"a":`, "}"+end
		}
	}
	return front, end
}

func TestP151Deep(t *testing.T) {
	chance := rand.New(rand.NewPCG(15, 1))
	for _, which := range []int{0, 1<<17 - 1, 0x5555, 0x1aaaa, 0xff, 0x1ff00, chance.IntN(1 << 17), chance.IntN(1 << 17), chance.IntN(1 << 17)} {
		for n := range 17 {
			front, end := open(n, which)
			if e := wantAsTold(t, front+"1"+end); e != api.OK {
				t.Errorf("%d open: error %d", n, e)
			}
		}
		front, end := open(15, which)
		for _, x := range []string{"[]", "{}", "[1]", `{"a":1}`, "[ ]", "{ }"} {
			if e := wantAsTold(t, front+x+end); e != api.OK {
				t.Errorf("%s within 15: error %d", x, e)
			}
		}
		front, end = open(16, which)
		for _, x := range []string{"[", "{", "[]", "{}", " [", "\n{", "[x", "{x", "[1e1000", "[\xff", "{\x00", "[["} {
			wantErr(t, api.ErrDeep, front+x, front+x+end, front+x+"x", front+x+"\x00", front+x+strings.Repeat("[", 200))
		}
		wantForm(t, front, front+"x[", front+"01[", front+":[", front+",[", front+"}"+"[", front+"1[", front+"1 {", front+`"a"[`, front+"null[", front+end[:1]+"[", front+`"`+"[", front+"1"+end+"[", front+"1"+end+"{", front+"1"+end+strings.Repeat("[", 17))
		wantErr(t, api.ErrBig, front+"1e1000[", front+"1e1000,["+end)
		if strings.HasSuffix(front, "[") {
			wantErr(t, api.ErrDeep, front+"1,[", front+"1,{", front+"1, [", front+`"a",null,[`+"]")
			wantForm(t, front+"1:[", front+"1 [", front+"1,,[")
		} else {
			wantErr(t, api.ErrDeep, front+`1,"b":[`, front+`1,"b":{`, front+`1 , "b" : [`)
			wantForm(t, front+`1,"b"[`, front+`1,[`, front+`1,{`, front+`1,"b",[`)
			wantErr(t, api.ErrTwice, front+`1,"a":[`, front+`1,"a"[`, front+`1,"\u0061"{`)
		}
		if last := strings.TrimSuffix(front, `"a":`); last != front {
			wantForm(t, last+"[", last+"{", last+`"a"[`, last+`"a",[`, last+` {`)
		}
		front, end = open(17, which)
		wantErr(t, api.ErrDeep, front+"1"+end, front+end, front)
	}
}

// How many are open counts, not how many there were.
func TestP151DeepAgain(t *testing.T) {
	sixteen := strings.Repeat("[", 16) + strings.Repeat("]", 16)
	fifteen := strings.Repeat("[", 15) + strings.Repeat("]", 15)
	objects, ends := open(15, 1<<15-1)
	for _, s := range []string{
		"[" + strings.Repeat(fifteen+",", 100) + fifteen + "]", `{"a":` + fifteen + `,"b":` + objects + "1" + ends + `,"c":` + fifteen + "}", "[" + strings.Repeat("[],", 500) + "[]]", "[" + strings.Repeat("{},", 500) + "[" + fifteen[1:29] + "]]",
		"[[[]],[[],[]]," + objects[:75] + "1" + ends + "]", strings.Repeat("[", 15) + strings.Repeat("[],", 100) + "{}" + strings.Repeat("]", 15),
	} {
		if e := wantAsTold(t, s); e != api.OK {
			t.Errorf("Parse of %s: error %d", brief(s), e)
		}
	}
	wantErr(t, api.ErrDeep, "["+sixteen+"]", "["+fifteen+","+sixteen+"]", `{"a":1,"b":`+sixteen+"}", strings.Repeat("[", 15)+strings.Repeat("[],", 100)+"[[]]"+strings.Repeat("]", 15), strings.Repeat("[", 4096), strings.Repeat(`{"":`, 1024), strings.Repeat("[", 2048)+strings.Repeat("]", 2048))
	wantParse(t, `"`+strings.Repeat("[", 40)+`"`, text(strings.Repeat("[", 40)))
	wantForm(t, sixteen+"]", sixteen+"[", sixteen+sixteen)
}

func TestP151Long(t *testing.T) {
	just := []string{strings.Repeat(" ", 4095) + "1", "1" + strings.Repeat("\n", 4095), `"` + strings.Repeat("a", 4094) + `"`, "[" + strings.Repeat("1,", 2046) + "12]", "1." + strings.Repeat("0", 4094), `"` + strings.Repeat("\u00e9", 2047) + `"`, "[" + strings.Repeat(" ", 4094) + "]", strings.Repeat(" ", 2046) + "null" + strings.Repeat(" ", 2046), `{"a":` + strings.Repeat(" ", 4089) + "0}"}
	for _, s := range just {
		if e := wantAsTold(t, s); e != api.OK || len(s) != 4096 {
			t.Errorf("Parse of %s: error %d", brief(s), e)
		}
		wantErr(t, api.ErrBig, s+" ", " "+s, s+"x", "x"+s, s+s, s+"\xff", "\x00"+s)
	}
	wantForm(t, strings.Repeat(" ", 4096), strings.Repeat("x", 4096), strings.Repeat("-", 4096), strings.Repeat("\xff", 4096), strings.Repeat("]", 4096), `"`+strings.Repeat("a", 4095), "[1,"+strings.Repeat(" ", 4093))
	wantErr(t, api.ErrTwice, `{"a":1,"a"`+strings.Repeat("x", 4086))
	wantErr(t, api.ErrBig, strings.Repeat(" ", 4097), strings.Repeat("x", 4097), strings.Repeat("-", 4097), strings.Repeat("\xff", 4097), strings.Repeat("[", 4097), strings.Repeat("]", 4097), `"`+strings.Repeat("a", 4096), `{"a":1,"a"`+strings.Repeat("x", 4087), strings.Repeat(" ", 5000), strings.Repeat("1", 1<<20), strings.Repeat("[", 1<<20), `"`+strings.Repeat("\u00e9", 2048)+`"`)
}

// Two things are wrong: the first one is told.
func TestP151WhichError(t *testing.T) {
	seventeen := strings.Repeat("[", 17)
	wrong := map[string]api.Errno{"x": api.ErrForm, "\xff": api.ErrForm, "01": api.ErrForm, `"\x"`: api.ErrForm, "nul": api.ErrForm, "[1,]": api.ErrForm, "{]": api.ErrForm, `{"a" 1}`: api.ErrForm, "1e1000": api.ErrBig, "-1e-1000": api.ErrBig, seventeen: api.ErrDeep, `{"a":1,"a":2}`: api.ErrTwice, `{"a":1,"a"`: api.ErrTwice, `{"b":{"a":1,"\u0061"}}`: api.ErrTwice}
	for s, e := range wrong {
		wantErr(t, e, s, "["+s, "["+s+"]", `{"a":`+s, "[0, "+s)
		for r := range wrong {
			wantErr(t, e, "["+s+","+r+"]", `{"x":`+s+`,"y":`+r+"}", "["+s+" "+r, "["+s+"]"+" "+r, `{"x":[`+s+`],"x":`+r)
			wantForm(t, "[1 "+s+","+r+"]", "[1]"+s+r)
			wantErr(t, api.ErrTwice, `{"a":1,"a"`+s+r, `{"a":1,"a":`+s+r)
		}
	}
}

// All short rows of parts, alone, and where a member, or the last bracket that may be open, comes next.
func TestP151Rows(t *testing.T) {
	l := []string{"[", "]", "{", "}", ",", ":", `"a"`, `"\u0061"`, "1", "1e1000", "-", "null", " "}
	told := map[api.Errno]int{}
	var put func(s string, n int)
	put = func(s string, n int) {
		told[wantAsTold(t, s)]++
		if n == 0 {
			return
		}
		for _, x := range l {
			put(s+x, n-1)
		}
	}
	for _, front := range []string{"", `{"a":1`, `[{"a":`, strings.Repeat("[", 15), strings.Repeat(`{"b":`, 14)} {
		put(front, 4)
	}
	for e, least := range map[api.Errno]int{api.OK: 100, api.ErrForm: 10000, api.ErrBig: 1000, api.ErrDeep: 100, api.ErrTwice: 100} {
		if told[e] < least {
			t.Errorf("error %d only %d times", e, told[e])
		}
	}
}

// Texts of values by chance, and such in which a byte is changed, moved or gone.
func TestP151ByChance(t *testing.T) {
	chance := rand.New(rand.NewPCG(15, 2))
	told := map[api.Errno]int{}
	for range 30000 {
		v := someValue(chance, 4)
		if chance.IntN(4) == 0 {
			v = nest(v, 10+chance.IntN(6))
		}
		s := someText(chance, v)
		if e := wantAsTold(t, s); e == api.OK {
			wantParse(t, s, v)
			told[e]++
		}
		if len(s) > 4000 {
			continue
		}
		at := chance.IntN(len(s))
		told[wantAsTold(t, s[:at]+some(chance, "0", "-", ".", "e", "1e1000", " ", "x", ",", ":", "[", "]", "{", "}", `"`, `\`, `\u`, "\xc3", "\xff", `"a":1,`, `{"":1,"":1}`, strings.Repeat("[", 15))+s[at:])]++
		told[wantAsTold(t, s[:at]+s[at+1:])]++
		told[wantAsTold(t, s[:at])]++
		told[wantAsTold(t, s[at:]+s[:at])]++
		told[wantAsTold(t, s[:at]+string([]byte{byte(chance.IntN(256))})+s[at+1:])]++
	}
	for _, e := range []api.Errno{api.OK, api.ErrForm, api.ErrBig, api.ErrDeep, api.ErrTwice} {
		if told[e] < 200 {
			t.Errorf("error %d only %d times", e, told[e])
		}
	}
}

// What is told is new memory: whoever changes it changes nothing else.
func TestP151NewMemory(t *testing.T) {
	s := `{"abc":["defg",12345,["hij"]],"klm":{"nop":"qrs","tuv":["wxyz"]}}`
	v := valueOf(t, s)
	from := uintptr(unsafe.Pointer(unsafe.StringData(s)))
	spoil(&v, func(part string) {
		if p := uintptr(unsafe.Pointer(unsafe.StringData(part))); p >= from && p < from+uintptr(len(s)) {
			t.Errorf("%q is a piece of the text", part)
		}
	})
	if w := valueOf(t, s); json.Text(w) != s {
		t.Errorf("spoiled: %s", show(w))
	}
	// No list is another one's room.
	v = valueOf(t, `[[1],[2],[3],{"a":4},{"b":5}]`)
	want := json.Text(v)
	for i := range v.Items {
		x := v.Items[i]
		_ = append(x.Items, text("more"))
		_ = append(x.Names, "more")
	}
	if got := json.Text(v); got != want {
		t.Errorf("%s, want %s", got, want)
	}
}

// spoil asks of each text within v, and changes all that can be.
func spoil(v *json.Value, ask func(string)) {
	for _, s := range append([]string{v.Text, v.Num.Digits}, v.Names...) {
		if s != "" {
			ask(s)
		}
	}
	for i := range v.Items {
		spoil(&v.Items[i], ask)
		v.Items[i] = text("spoiled")
	}
	for i := range v.Names {
		v.Names[i] = "spoiled"
	}
}

// The same text has the same answer, whatever came ahead of it.
func TestP151KeepsNothing(t *testing.T) {
	l := []string{"[1,2", `{"a":1,"a"`, strings.Repeat("[", 17), `{"a":[1,{"b":null}]}`, "[]", "1e1000", `{"a":1}`}
	first := map[string]string{}
	for range 3 {
		for _, s := range l {
			v, e := json.Parse(s)
			answer := fmt.Sprintf("%+v %d", v, e)
			if was, is := first[s]; is && was != answer {
				t.Errorf("Parse of %s: %s, then %s", brief(s), was, answer)
			}
			first[s] = answer
		}
		sort.Sort(sort.Reverse(sort.StringSlice(l)))
	}
}
