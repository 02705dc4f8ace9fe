package json_test

import (
	"fmt"
	"math/rand/v2"
	"strings"
	"testing"
	"unicode/utf8"

	"rubricator/api"
	"rubricator/json"
)

// P15.1: strings.

// wantString wants what a string, that is written so between its quotes, tells: as a value, within others, and as a name.
func wantString(t *testing.T, written, want string) {
	t.Helper()
	s := `"` + written + `"`
	wantParse(t, s, text(want))
	wantParse(t, "["+s+","+s+"]", array(text(want), text(want)))
	wantParse(t, " { "+s+" : "+s+" } ", object(want, text(want)))
	wantParse(t, `"ab`+written+`xy"`, text("ab"+want+"xy"))
	wantErr(t, api.ErrTwice, "{"+s+":1,"+s)
}

// wantNoString wants that no string is written so, wherever it may stand.
func wantNoString(t *testing.T, l ...string) {
	t.Helper()
	for _, written := range l {
		s := `"` + written + `"`
		wantForm(t, s, "["+s+"]", "["+s+","+s+"]", "{"+s+":1}", `{"a":`+s+"}", `{"a":1,`+s+`:1}`, `"ab`+written+`xy"`, `"ab`+written+`"`, `"`+written+`xy"`, s+`"`, s+"x", "["+s+"1e1000", "["+s+strings.Repeat("[", 17))
	}
}

func TestP151Strings(t *testing.T) {
	for _, s := range []string{"", "a", " ", "  ", "abc", "a b", "'", "''", "/", "//", "[", "]", "{", "}", ",", ":", "null", "1e1000", "u", "u0041", "bfnrt", "\x7f", "a\x7fb", "\u0080", "\u0085", "\u00a0", "\u00e9", "\u07ff", "\u0800", "\u20ac", "\u2028", "\u2029", "\ud7ff", "\ue000", "\ufdd0", "\ufeff", "\ufffd", "\ufffe", "\uffff", "\U00010000", "\U0001F600", "\U0010FFFF", "e\u0301", "\u05d0\u05d1", strings.Repeat("x", 1000), strings.Repeat("\u20ac", 300)} {
		wantString(t, s, s)
	}
}

func TestP151ShortEscapes(t *testing.T) {
	for written, want := range map[string]string{
		`\"`: `"`, `\\`: `\`, `\/`: `/`, `\b`: "\x08", `\f`: "\x0c", `\n`: "\x0a", `\r`: "\x0d", `\t`: "\x09",
		`\"\"`: `""`, `\\\\`: `\\`, `\\\"`: `\"`, `\\n`: `\n`, `\\u0041`: `\u0041`, `\\\u0041`: `\A`, `\"\\\/\b\f\n\r\t`: "\"\\/\x08\x0c\x0a\x0d\x09", `a\nb`: "a\nb", `\nb`: "\nb", `a\n`: "a\n", `\/\/`: "//", `\bb`: "\x08b",
		`\"[`: `"[`, `\\,`: `\,`, `\"x\"`: `"x"`, "\\n\u00e9": "\n\u00e9", "\u00e9\\n": "\u00e9\n",
	} {
		wantString(t, written, want)
	}
	for c := range 256 {
		written := "\\" + string([]byte{byte(c)})
		if !strings.Contains(`"\/bfnrt`, written[1:]) {
			wantNoString(t, written)
		}
		wantAsTold(t, `"`+written+`"`)
		wantAsTold(t, `"`+written+`0041"`)
	}
	wantNoString(t, `\a`, `\v`, `\0`, `\x41`, `\'`, `\U0041`, `\U00000041`, `\B`, `\F`, `\N`, `\R`, `\T`, `\ `, `\ n`, "\\\n", "\\\u00e9", `\[`, `\d`, `\e`, `\s`, `\8`, `\101`)
}

func TestP151Numbered(t *testing.T) {
	for written, want := range map[string]string{
		`\u0041`: "A", `\u0000`: "\x00", `\u001f`: "\x1f", `\u0020`: " ", `\u0022`: `"`, `\u005c`: `\`, `\u005C`: `\`, `\u002f`: "/", `\u007f`: "\x7f", `\u0080`: "\u0080", `\u07ff`: "\u07ff", `\u07FF`: "\u07ff", `\u0800`: "\u0800", `\uFFFD`: "\ufffd", `\uffff`: "\uffff", `\uFFFe`: "\ufffe", `\ufeff`: "\ufeff",
		`\uabcd`: "\uabcd", `\uABCD`: "\uabcd", `\uAbCd`: "\uabcd", `\uaBcD`: "\uabcd", `\uef01`: "\uef01", `\uEF01`: "\uef01", `\u2345`: "\u2345", `\u6789`: "\u6789", `\u00e9`: "\u00e9", `\u00E9`: "\u00e9",
		`\u00411`: "A1", `\u0041a`: "Aa", `\u0041\u0042`: "AB", `1\u00411`: "1A1", `\u005cn`: `\n`, `\u005c\u006e`: `\n`, `\u005c\n`: "\\\n", `\u0022,\u0022`: `","`, `\u00e9\u0301`: "\u00e9\u0301", "\\u00e9\u00e9": "\u00e9\u00e9", `\u0041\\`: `A\`,
	} {
		wantString(t, written, want)
	}
	wantNoString(t, `\u`, `\u0`, `\u00`, `\u004`, `\u004g`, `\u00g1`, `\u0g41`, `\ug041`, `\u 041`, `\u0041\u`, `\u0041\u004`, `\u+041`, `\u-041`, `\u0x41`, `\u0X4`, `\u0_41`, `\u_041`, `\u004_`, `\u0b11`+`\u0b1`, `\u0o17`, `\u{41}`, `\u{0041}`, `\u00\u0041`, `\u004\"`, `\u\"0041`, `\u00 41`, `\u.041`, `\u1e+1`, "\\u004\x00", "\\u004\xff", "\\u00\u00e9", "\\u004\uff11", "\\u\uff10041", "\\u004\u0661")
	for c := range 256 {
		b := string([]byte{byte(c)})
		for _, written := range []string{`\u` + b + "041", `\u0` + b + "41", `\u00` + b + "1", `\u004` + b, `\ud83d\u` + b + "e00", `\ud83d\ud` + b + "00", `\ud83d\ude` + b + "0", `\ud83d\ude0` + b, `\u` + b + `83d\ude00`} {
			e := wantAsTold(t, `"`+written+`"`)
			if strings.Contains(written[:6], b) && !strings.Contains("0123456789abcdefABCDEFu\\", b) && e == api.OK {
				t.Errorf("%q is a string", written)
			}
		}
	}
}

// Each number, in both cases.
func TestP151EachNumber(t *testing.T) {
	for x := range 65536 {
		for _, written := range []string{fmt.Sprintf(`"\u%04x"`, x), fmt.Sprintf(`"\u%04X"`, x)} {
			v, e := json.Parse(written)
			switch half := x >= 55296 && x <= 57343; {
			case half && (e != api.ErrForm || !same(v, json.Value{})):
				t.Errorf("%s: %s, error %d", written, show(v), e)
			case !half && (e != api.OK || !same(v, text(string(rune(x))))):
				t.Errorf("%s: %s, error %d", written, show(v), e)
			}
		}
	}
}

func TestP151Pairs(t *testing.T) {
	for written, want := range map[string]string{
		`\ud800\udc00`: "\U00010000", `\ud800\udfff`: "\U000103ff", `\ud801\udc00`: "\U00010400", `\udbff\udc00`: "\U0010fc00", `\udbff\udfff`: "\U0010ffff", `\ud83d\ude00`: "\U0001f600", `\uD83D\uDE00`: "\U0001f600", `\uD83d\udE00`: "\U0001f600",
		`\ud83d\ude00\ud83d\ude00`: "\U0001f600\U0001f600", `a\ud83d\ude00b`: "a\U0001f600b", `\ud83d\ude00\u0041`: "\U0001f600A", `\u0041\ud83d\ude00`: "A\U0001f600", `\ud7ff`: "\ud7ff", `\ue000`: "\ue000", `\ud7ff\ue000`: "\ud7ff\ue000", `\ud83d\ude00\n`: "\U0001f600\n", `\ud83d\ude000`: "\U0001f6000",
	} {
		wantString(t, written, want)
	}
	for _, high := range []string{`\ud800`, `\udbff`, `\ud83d`, `\uDBFF`, `\uD800`} {
		wantNoString(t, high, high+"a", "a"+high, high+" ", high+high, high+`\ud7ff`, high+`\ue000`, high+`\udbff`, high+`\u0041`, high+`\uffff`, high+`\u0000`, high+`\n`, high+`\\`, high+`\"`, high+`\/`, high+`\\udc00`, high+`udc00`, high+`\udc0`, high+`\udc`, high+`\u`, high+`\`, high+`\udc0g`, high+` \udc00`, high+`a\udc00`, high+`/udc00`, high+`\Udc00`, high+`\xdc00`, high+"\xed\xb0\x80", high+"\U0001f600", high+high+`\udc00`)
	}
	for _, low := range []string{`\udc00`, `\udfff`, `\ude00`, `\uDFFF`, `\uDC00`} {
		wantNoString(t, low, low+"a", "a"+low, low+low, low+`\ud800`, low+`\udbff`, low+`\u0041`, `\u0041`+low, `\ud7ff`+low, `\ue000`+low, `\ud83d\ude00`+low, low+`\ud83d\ude00`, `\ud83d`+"\xed", `\ud83d\u0041`+low, `\n`+low)
	}
	// Halves in strings of their own are no pair.
	wantForm(t, `["\ud83d","\ude00"]`, `["\ud83d" "\ude00"]`, `{"\ud83d":"\ude00"}`, `"\ud83d""\ude00"`)
}

// Each pair at the edges, and some within.
func TestP151EachPair(t *testing.T) {
	edges := []int{0, 1, 0xd7fe, 0xd7ff, 0xd800, 0xd801, 0xdabc, 0xdbfe, 0xdbff, 0xdc00, 0xdc01, 0xdcba, 0xdffe, 0xdfff, 0xe000, 0xe001, 0xfffe, 0xffff}
	for _, x := range edges {
		for _, y := range edges {
			for _, z := range edges {
				wantAsTold(t, fmt.Sprintf(`"\u%04x\u%04X\u%04x"`, x, y, z))
			}
			wantAsTold(t, fmt.Sprintf(`"\u%04x\u%04x"`, x, y))
			wantAsTold(t, fmt.Sprintf(`{"\u%04x\u%04x":"\u%04x"}`, x, y, x))
		}
	}
	for x := 55296; x <= 56319; x++ {
		for _, y := range []int{56320, 56321, 56832, 57342, 57343} {
			want := string(rune(65536 + 1024*(x-55296) + y - 56320))
			if v, e := json.Parse(fmt.Sprintf(`"\u%x\u%X"`, x, y)); e != api.OK || v.Text != want {
				t.Errorf("pair %x, %x: %s, error %d", x, y, show(v), e)
			}
		}
	}
	for y := 56320; y <= 57343; y++ {
		want := string(rune(65536 + 1024*(0xd9ab-55296) + y - 56320))
		if v, e := json.Parse(fmt.Sprintf(`"\ud9AB\u%x"`, y)); e != api.OK || v.Text != want {
			t.Errorf("pair d9ab, %x: %s, error %d", y, show(v), e)
		}
	}
}

// Each byte, as it is, ahead of, between, and behind others.
func TestP151EachByteInStrings(t *testing.T) {
	for c := range 256 {
		b := string([]byte{byte(c)})
		switch {
		case c < 32 || c >= 128:
			wantNoString(t, b)
		case c != '"' && c != '\\':
			wantString(t, b, b)
		}
		for _, s := range []string{b, "a" + b, b + "a", "a" + b + "a", "\u00e9" + b + "\u00e9", `\n` + b + `\n`, b + b, `\` + b} {
			wantAsTold(t, `"`+s+`"`)
			wantAsTold(t, `{"`+s+`":1}`)
		}
	}
}

// notUTF8 are bytes that are none, or not all of them.
var notUTF8 = []string{
	"\x80", "\xbf", "\x80\x80", "\xc0\x80", "\xc0\xaf", "\xc1\xbf", "\xc0", "\xc1", "\xc2", "\xc3", "\xdf", "\xc3\x28", "\xc3\xc3", "\xc3\xa9\xa9", "\xc2\x7f", "\xc2\xc0",
	"\xe0\x80\x80", "\xe0\x9f\xbf", "\xe0\x80\xaf", "\xe0", "\xe0\xa0", "\xe2\x82", "\xe2", "\xe2\x82\x28", "\xe2\x28\xac", "\xe2\x82\xc0", "\xef\xbf", "\xef", "\xef\xbf\xbd\xbd",
	"\xed\xa0\x80", "\xed\xaf\xbf", "\xed\xb0\x80", "\xed\xbf\xbf", "\xed\xa0\xbd\xed\xb8\x80", "\xed\xa0", "\xed",
	"\xf0\x80\x80\x80", "\xf0\x8f\xbf\xbf", "\xf0", "\xf0\x9f", "\xf0\x9f\x98", "\xf0\x9f\x98\x28", "\xf0\x9f\x28\x80", "\xf4\x90\x80\x80", "\xf4\xbf\xbf\xbf", "\xf4", "\xf4\x8f\xbf", "\xf5\x80\x80\x80", "\xf7\xbf\xbf\xbf", "\xf8\x88\x80\x80\x80", "\xfb\xbf\xbf\xbf\xbf", "\xfc\x84\x80\x80\x80\x80", "\xfd", "\xfe", "\xff", "\xff\xfe", "\xfe\xff", "\xfe\xff\x00A",
}

func TestP151NotUTF8(t *testing.T) {
	for _, b := range notUTF8 {
		wantNoString(t, b, "a"+b, b+"a", "\u00e9"+b, b+"\u00e9", "\ufffd"+b, b+"\ufffd", `\n`+b, b+`\n`, `\u00e9`+b, b+`\u00e9`, `\ud83d\ude00`+b, b+`\ud83d\ude00`, `\`+b, `\u`+b, `\u00`+b, `\u004`+b, `\ud83d`+b)
		wantForm(t, `"`+b, `"abc`+b, "{\""+b, b, "["+b+"]", "["+b, "{"+b, `{"a"`+b, `{"a":`+b, "1"+b, "[1"+b+"]")
		wantErr(t, api.ErrDeep, strings.Repeat("[", 17)+`"`+b+`"`)
		wantErr(t, api.ErrTwice, `{"a":1,"a":"`+b+`"`)
	}
	// A sign cut off by the quote that ends the string, or by a backslash: the bytes behind it don't complete it.
	for _, sign := range []string{"\u00e9", "\u20ac", "\ufffd", "\U0001f600"} {
		for i := 1; i < len(sign); i++ {
			wantForm(t, `"`+sign[:i]+`"`+sign[i:], `"`+sign[:i]+`"`+sign[i:]+`"`, `"`+sign[:i]+`\n`+sign[i:]+`"`, `"`+sign[:i]+`\u0041`+sign[i:]+`"`, `"`+sign[i:]+`"`, `"`+sign[:i], `"`+sign[:i]+" "+sign[i:]+`"`)
		}
	}
}

// All rows of two bytes, and of three and four at the edges: the library tells which are UTF-8.
func TestP151EachRowOfBytes(t *testing.T) {
	ask := func(s string) {
		v, e := json.Parse(`"` + s + `"`)
		if ok := utf8.ValidString(s); ok != (e == api.OK) || ok && v.Text != s {
			t.Errorf("%q: %s, error %d", s, show(v), e)
		}
	}
	for x := 128; x < 256; x++ {
		for y := 128; y < 256; y++ {
			ask(string([]byte{byte(x), byte(y)}))
			for _, z := range []byte{0x7f, 0x80, 0x8f, 0x90, 0x9f, 0xa0, 0xbd, 0xbf, 0xc0, 0xff} {
				ask(string([]byte{byte(x), byte(y), z}))
				for _, u := range []byte{'a', 0x80, 0xbf, 0xc0} {
					ask(string([]byte{byte(x), byte(y), z, u}))
				}
			}
		}
	}
}

// Each sign there is, as it is, some in a row.
func TestP151EachSign(t *testing.T) {
	row := ""
	ask := func() {
		if v, e := json.Parse(`"` + row + `"`); e != api.OK || v.Text != row {
			t.Errorf("signs %s: %s, error %d", brief(row), show(v), e)
		}
		row = ""
	}
	for x := rune(32); x <= utf8.MaxRune; x++ {
		if x != '"' && x != '\\' && utf8.ValidRune(x) {
			row += string(x)
		}
		if len(row) > 200 {
			ask()
		}
	}
	ask()
}

func TestP151NoQuote(t *testing.T) {
	wantForm(t, `"`, `"a`, `"a\"`, `"\"`, `"\`, `"\\`+`\"`, `"a\\\"`, `"\u`, `"\u0`, `"\u00`, `"\u004`, `"\u0041`, `"\ud83d`, `"\ud83d\`, `"\ud83d\u`, `"\ud83d\ude0`, `"\ud83d\ude00`, `"\n`, "\"\n\"", "\"a\nb\"", `""a`, `"""`, `""""`, `"a""`, `'a'`, `a"`, `\"a\"`, `["a]`, `["a,"b"]`, `{"a:1}`, `{a":1}`, `{"a":"}`, `{"a":"b}`, `["]`, `[""]"`)
	wantParse(t, `"\\"`, text(`\`))
	wantParse(t, `["\\","\\"]`, array(text(`\`), text(`\`)))
	wantParse(t, `"a\\\\"`, text(`a\\`))
}

// Strings by chance, of which some parts are none.
func TestP151StringsByChance(t *testing.T) {
	chance := rand.New(rand.NewPCG(15, 3))
	told := map[api.Errno]int{}
	for range 100000 {
		s := ""
		for range 1 + chance.IntN(6) {
			s += some(chance, "a", "a b", `\n`, `\"`, `\\`, `\/`, `\u0041`, `\u00E9`, `\ud83d\ude00`, "\u00e9", "\ufffd", "\U0001f600", "0", "f")
			if chance.IntN(8) == 0 {
				s += some(chance, `"`, `\`, `\u`, `\ud83d`, `\ude00`, "\xc3", "\xa9", "\x00", "\x1f", `\x`, "\xf0\x9f", "\xff")
			}
		}
		told[wantAsTold(t, some(chance, `"`, `["`, `{"a":"`)+s+some(chance, `"`, `"]`, `"}`))]++
		told[wantAsTold(t, `"`+s+`"`)]++
	}
	for _, e := range []api.Errno{api.OK, api.ErrForm} {
		if told[e] < 30000 {
			t.Errorf("error %d only %d times", e, told[e])
		}
	}
}
