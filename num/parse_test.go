package num_test

import (
	"math"
	"math/rand/v2"
	"strconv"
	"strings"
	"testing"

	"rubricator/api"
	"rubricator/num"
)

// P14.1

func TestP141Examples(t *testing.T) {
	wantParse(t, "1500", num.Num{Digits: "15", Exp: 2}, api.OK)
	wantParse(t, "-0.250", num.Num{Down: true, Digits: "25", Exp: -2}, api.OK)
}

// Each form that the chapter's words tell: a sign or none, a point or none, an exponent of each kind or none.
func TestP141Forms(t *testing.T) {
	for _, sign := range []string{"", "-"} {
		for _, ahead := range []string{"0", "1", "9", "10", "15", "100", "907", "1234567890"} {
			for _, behind := range []string{"", ".0", ".5", ".00", ".05", ".50", ".050", ".1234567890"} {
				for _, e := range []string{"", "e", "E", "e+", "E+", "e-", "E-"} {
					for _, exp := range []string{"0", "00", "1", "01", "7", "10", "010", "123", "0000000000000000000000000000017"} {
						if e == "" {
							exp = ""
						}
						s := sign + ahead + behind + e + exp
						if e := wantAsTold(t, s); e != api.OK {
							t.Errorf("%s: error %d", s, e)
						}
					}
				}
			}
		}
	}
}

func TestP141Numbers(t *testing.T) {
	for _, x := range []struct {
		s string
		n num.Num
	}{
		{"7", num.Num{Digits: "7"}}, {"-7", num.Num{Down: true, Digits: "7"}},
		{"15", num.Num{Digits: "15"}}, {"15e2", num.Num{Digits: "15", Exp: 2}}, {"15E2", num.Num{Digits: "15", Exp: 2}},
		{"15e+2", num.Num{Digits: "15", Exp: 2}}, {"15E+2", num.Num{Digits: "15", Exp: 2}},
		{"15e-2", num.Num{Digits: "15", Exp: -2}}, {"15E-2", num.Num{Digits: "15", Exp: -2}},
		{"1.5", num.Num{Digits: "15", Exp: -1}}, {"1.5e3", num.Num{Digits: "15", Exp: 2}}, {"1.5e1", num.Num{Digits: "15"}},
		{"1.5e-3", num.Num{Digits: "15", Exp: -4}}, {"0.15", num.Num{Digits: "15", Exp: -2}}, {"0.15e2", num.Num{Digits: "15"}},
		{"1.0", num.Num{Digits: "1"}}, {"-1.0e0", num.Num{Down: true, Digits: "1"}}, {"10", num.Num{Digits: "1", Exp: 1}},
		{"100", num.Num{Digits: "1", Exp: 2}}, {"100e-2", num.Num{Digits: "1"}}, {"100.00", num.Num{Digits: "1", Exp: 2}},
		{"0.001", num.Num{Digits: "1", Exp: -3}}, {"0.00100", num.Num{Digits: "1", Exp: -3}}, {"0.001e3", num.Num{Digits: "1"}},
		{"101", num.Num{Digits: "101"}}, {"1001000", num.Num{Digits: "1001", Exp: 3}}, {"1.001", num.Num{Digits: "1001", Exp: -3}},
		{"100.001", num.Num{Digits: "100001", Exp: -3}}, {"100.00100", num.Num{Digits: "100001", Exp: -3}}, {"0.0100100", num.Num{Digits: "1001", Exp: -5}},
		{"-200.0020e-1", num.Num{Down: true, Digits: "200002", Exp: -4}}, {"10.01e2", num.Num{Digits: "1001"}},
		{"1e5", num.Num{Digits: "1", Exp: 5}}, {"1e05", num.Num{Digits: "1", Exp: 5}}, {"1e-05", num.Num{Digits: "1", Exp: -5}}, {"1e+005", num.Num{Digits: "1", Exp: 5}},
		{"1e-0", num.Num{Digits: "1"}}, {"1E+0", num.Num{Digits: "1"}},
		{"9007199254740993", num.Num{Digits: "9007199254740993"}}, {"0.1000000000000000055511151231257827", num.Num{Digits: "1000000000000000055511151231257827", Exp: -34}},
		{"18446744073709551616", num.Num{Digits: "18446744073709551616"}}, {"-9223372036854775809", num.Num{Down: true, Digits: "9223372036854775809"}},
	} {
		wantParse(t, x.s, x.n, api.OK)
	}
}

func TestP141Zero(t *testing.T) {
	for _, s := range []string{
		"0", "-0", "0.0", "-0.0", "0.000", "-0.000", "0e9", "-0e9", "0E9", "0e+9", "0e-9", "0E-1200", "-0E-1200", "0e1200", "0E+1200",
		"0.0e5", "0.000E-5", "0e0", "0e00", "-0.0e-0", "0e999", "0e1000", "0e-999", "0e-1000",
		"0." + noughts(40), "0." + noughts(41), "0." + noughts(5000), "0." + noughts(5000) + "e5000", "-0." + noughts(5000) + "e-5000",
		"0e" + strings.Repeat("9", 500), "-0.00e-" + strings.Repeat("9", 500), "0e+" + noughts(500) + "1",
	} {
		wantParse(t, s, num.Num{}, api.OK)
	}
}

func TestP141NoNumbers(t *testing.T) {
	wantErr(t, api.ErrForm,
		"", "-", "+", ".", "e", "E", "-.", "-e", ".e", "-.e", "e1", "E1", "e5", "-e1", ".e1", "-.e1",
		".0", ".5", "-.5", "0.", "1.", "-1.", "1.e1", "1.E5", "0.e0", ".5e1", "1..5", "1.5.", "1.5.5", "1.-5", "1.+5", "1.e", "..", "1..",
		"1e", "1E", "1e+", "1e-", "1E+", "1E-", "-1e", "0e", "0.0e", "1.5e", "1.5E-", "1e.5", "1e5.", "1e5.0", "1e.", "1e1e1", "1ee1", "1eE1", "1e1e", "1e1E1", "0e0e0",
		"00", "01", "-01", "-00", "007", "00.5", "-00.5", "01.5", "00e1", "01e1", "0123456789", "-012",
		"+1", "+0", "+0.5", "+1e5", "+-1", "-+1", "--1", "--0", "++1", "1-", "1+", "1-1", "1+1", "-1-", "-",
		"1e--5", "1e++5", "1e+-5", "1e-+5", "1e5-", "1e5+", "1e5-5", "1e-5-5", "1-e5", "1+e5",
		" ", " 1", "1 ", "\t1", "1\n", "1\r", "- 1", "1 .5", "1. 5", "1 e5", "1e 5", "1e- 5", "1e5 ", "1 000", "-1 ", "\n", "1\x00", "\x001", "1\v", "1\u00a0", "\ufeff1",
		"a", "1a", "a1", "0x1", "0x10", "1x", "1f", "1d5", "1_000", "1,5", "1,000", "1'000", "1/2", "1:", "NaN", "Infinity", "-Infinity", "inf", "null", "true", `"1"`, "[1]", "1;", "$1", "1%", "0b1", "0o7",
		"١", "٣", "1٣", "٣1", "１", "1１", "１５", "1.５", "1e５", "१", "-१", "²", "1²", "½", "1½", "一", "Ⅷ", "𝟏", "1𝟏", "−1", "1е5", "1Е5", "1．5", "1٫5", "＋1", "ｅ",
		"\x80", "1\x80", "\x801", "\xff", "1\xff", "1.\xb1", "1e\xb5", "-\xb1", "\xb1", "\xb9", "1\xe2\x82", "1\xf0\x9d\x9f",
	)
}

// All texts of a few bytes, of those that a number's may have, and a few others.
func TestP141AllShortTexts(t *testing.T) {
	const signs = "-+.eE019x"
	row := []string{""}
	for range 6 {
		var more []string
		for _, s := range row {
			wantAsTold(t, s)
			for i := range len(signs) {
				more = append(more, s+signs[i:i+1])
			}
		}
		row = more
	}
	for _, s := range row {
		wantAsTold(t, s)
	}
}

// Each byte in place of, and ahead of, each one of a text, and behind all.
func TestP141EachByte(t *testing.T) {
	for _, s := range []string{"0", "7", "-0", "15", "-1500", "1.5", "-0.250", "1e5", "12.34E-56", "-9.0e+10"} {
		for i := range len(s) + 1 {
			for c := range 256 {
				b := string([]byte{byte(c)})
				wantAsTold(t, s[:i]+b+s[i:])
				if i < len(s) {
					wantAsTold(t, s[:i]+b+s[i+1:])
				}
			}
			for _, r := range []rune{0x660, 0x661, 0x669, 0x6f5, 0x966, 0x967, 0xff10, 0xff11, 0x1d7ce, 0xb2, 0x2212, 0xff0b, 0xff0e, 0x435, 0x130, 0x131} {
				wantErr(t, api.ErrForm, s[:i]+string(r)+s[i:])
			}
		}
		for i := range len(s) {
			wantAsTold(t, s[:i])
			wantAsTold(t, s[i:])
			wantAsTold(t, s[:i]+s[i+1:])
		}
	}
}

// As many digits as may be, and one more, wherever the point stands.
func TestP141Digits(t *testing.T) {
	for _, n := range []int{39, 40, 41, 42} {
		d, e := figures(n), api.OK
		if n > 40 {
			e = api.ErrBig
		}
		for _, sign := range []string{"", "-"} {
			for at := 1; at < n; at++ {
				want := num.Num{Down: sign != "", Digits: d, Exp: at - n}
				if e != api.OK {
					want = num.Num{}
				}
				wantParse(t, sign+d[:at]+"."+d[at:], want, e)
			}
			whole := num.Num{Down: sign != "", Digits: d}
			behind := num.Num{Down: sign != "", Digits: d, Exp: -n}
			if e != api.OK {
				whole, behind = num.Num{}, num.Num{}
			}
			wantParse(t, sign+d, whole, e)
			wantParse(t, sign+d+"e0", whole, e)
			wantParse(t, sign+"0."+d, behind, e)
			wantParse(t, sign+"0."+d+"e"+strconv.Itoa(n), whole, e)
		}
	}
}

// Noughts at either end don't count among the digits; those within do.
func TestP141DigitsAndNoughts(t *testing.T) {
	for _, many := range []int{1, 2, 40, 41, 500} {
		for _, n := range []int{1, 39, 40, 41} {
			d, e := figures(n), api.OK
			if n > 40 {
				e = api.ErrBig
			}
			for _, x := range []struct {
				s   string
				exp int
			}{
				{d + noughts(many), many},
				{d + "." + noughts(many), 0},
				{d + noughts(many) + "." + noughts(many), many},
				{"0." + noughts(many) + d, -many - n},
				{"0." + noughts(many) + d + noughts(many), -many - n},
				{d + noughts(many) + "e-" + strconv.Itoa(many), 0},
			} {
				want := num.Num{Digits: d, Exp: x.exp}
				if e != api.OK {
					want = num.Num{}
				}
				wantParse(t, x.s, want, e)
			}
		}
	}
	wantParse(t, "1"+noughts(38)+"1", num.Num{Digits: "1" + noughts(38) + "1"}, api.OK)
	wantErr(t, api.ErrBig, "1"+noughts(39)+"1", "1."+noughts(39)+"1", "1"+noughts(20)+"."+noughts(19)+"1", "1"+noughts(39)+".1", "-1"+noughts(39)+"1e-40", "1."+noughts(5000)+"1")
	wantParse(t, "-1"+noughts(18)+"."+noughts(20)+"1"+noughts(9), num.Num{Down: true, Digits: "1" + noughts(38) + "1", Exp: -21}, api.OK)
}

// A number whose digits are 1, reached in many ways, for each Exp about the bounds.
func TestP141Exps(t *testing.T) {
	for _, exp := range []int{-1001, -1000, -999, -998, 998, 999, 1000, 1001} {
		want, e := num.Num{Digits: "1", Exp: exp}, api.OK
		if exp < -999 || exp > 999 {
			want, e = num.Num{}, api.ErrBig
		}
		by := func(s string, n int) { wantParse(t, s+"e"+strconv.Itoa(n), want, e) }
		by("1", exp)                               // by an exponent alone
		by("1.0", exp)                             // a nought behind the point is none of its digits
		by("1."+noughts(300), exp)                 // nor are many
		by("0.1", exp+1)                           // by a point
		by("0.001", exp+3)                         //
		by("10", exp-1)                            // by noughts
		by("1"+noughts(500), exp-500)              //
		by("1"+noughts(3000), exp-3000)            //
		by("0."+noughts(3000)+"1", exp+3001)       // by both
		by("0."+noughts(99)+"10", exp+100)         //
		by("1"+noughts(70)+"."+noughts(9), exp-70) //
		if exp > 0 {
			wantParse(t, "1"+noughts(exp), want, e) // by noughts alone
			wantParse(t, "1"+noughts(exp)+".00", want, e)
			wantParse(t, "1e+0"+strconv.Itoa(exp), want, e)
		} else {
			wantParse(t, "0."+noughts(-exp-1)+"1", want, e) // by the point alone
			wantParse(t, "0."+noughts(-exp-1)+"100", want, e)
			wantParse(t, "1E-000"+strconv.Itoa(-exp), want, e)
		}
	}
	forty := figures(40)
	wantParse(t, forty+"e999", num.Num{Digits: forty, Exp: 999}, api.OK)
	wantParse(t, "-"+forty+"E-999", num.Num{Down: true, Digits: forty, Exp: -999}, api.OK)
	wantParse(t, "0."+forty+"e1039", num.Num{Digits: forty, Exp: 999}, api.OK)
	wantParse(t, "0."+forty+"e-959", num.Num{Digits: forty, Exp: -999}, api.OK)
	wantParse(t, forty[:1]+"."+forty[1:]+"e-960", num.Num{Digits: forty, Exp: -999}, api.OK)
	wantErr(t, api.ErrBig, forty+"e1000", forty+"e-1000", "0."+forty+"e1040", "0."+forty+"e-960", forty[:1]+"."+forty[1:]+"e-961", figures(41)+"e1000")
}

// Exponents of more digits than a number of the machine has.
func TestP141LongExponents(t *testing.T) {
	for _, exp := range []string{
		"9223372036854775807", "9223372036854775808", "18446744073709551615", "18446744073709551616", "18446744073709551617", "18446744073709552616", "4294967296", "4294967297", "2147483648",
		"1099511627776", "10995116277760", "340282366920938463463374607431768211456", "1" + noughts(19), "1" + noughts(20), "1" + noughts(64), "1" + noughts(500), strings.Repeat("9", 700), figures(300), noughts(300) + figures(50),
	} {
		for _, e := range []string{"e", "E", "e+", "E+", "e-", "E-"} {
			for _, zero := range []string{"0", "-0", "0.000", "-0.0"} {
				wantParse(t, zero+e+exp, num.Num{}, api.OK)
			}
			wantErr(t, api.ErrBig, "1"+e+exp, "-1"+e+exp, "10"+e+exp, "0.1"+e+exp, "1.5"+e+exp, figures(40)+e+exp, "1"+noughts(999)+e+exp, "0."+noughts(999)+"1"+e+exp)
		}
	}
	for _, many := range []int{1, 18, 19, 20, 300} {
		wantParse(t, "1e"+noughts(many), num.Num{Digits: "1"}, api.OK)
		wantParse(t, "1e-"+noughts(many)+"7", num.Num{Digits: "1", Exp: -7}, api.OK)
		wantParse(t, "15E+"+noughts(many)+"999", num.Num{Digits: "15", Exp: 999}, api.OK)
		wantErr(t, api.ErrBig, "1e"+noughts(many)+"1000", "1e-"+noughts(many)+"1000")
	}
}

// Exponents far beyond the bounds, that the point, or noughts, bring back.
func TestP141JustRightByItsPoint(t *testing.T) {
	for _, many := range []int{2000, 100000, 1200000} {
		at := strconv.Itoa(many)
		wantParse(t, "0."+noughts(many-1)+"1e"+at, num.Num{Digits: "1"}, api.OK)
		wantParse(t, "-0."+noughts(many-1)+"1E+0000"+at, num.Num{Down: true, Digits: "1"}, api.OK)
		wantParse(t, "1"+noughts(many)+"e-"+at, num.Num{Digits: "1"}, api.OK)
		wantParse(t, "1"+noughts(many)+".000e-"+at, num.Num{Digits: "1"}, api.OK)
		wantParse(t, "0."+noughts(many-1)+"1e"+strconv.Itoa(many+999), num.Num{Digits: "1", Exp: 999}, api.OK)
		wantParse(t, "0."+noughts(many-1)+"1e"+strconv.Itoa(many-999), num.Num{Digits: "1", Exp: -999}, api.OK)
		wantParse(t, "1"+noughts(many)+"e-"+strconv.Itoa(many-999), num.Num{Digits: "1", Exp: 999}, api.OK)
		wantParse(t, "1"+noughts(many)+"e-"+strconv.Itoa(many+999), num.Num{Digits: "1", Exp: -999}, api.OK)
		wantErr(t, api.ErrBig, "0."+noughts(many-1)+"1e"+strconv.Itoa(many+1000), "0."+noughts(many-1)+"1e"+strconv.Itoa(many-1000),
			"1"+noughts(many)+"e-"+strconv.Itoa(many-1000), "1"+noughts(many)+"e-"+strconv.Itoa(many+1000), "0."+noughts(many-1)+"1e"+at+"0", "1"+noughts(many)+"e"+at)
	}
}

func TestP141VeryLongTexts(t *testing.T) {
	const many = 3000000
	wantErr(t, api.ErrBig, strings.Repeat("1", many), "-"+strings.Repeat("9", many), "1"+noughts(many), "0."+noughts(many)+"1", "1."+strings.Repeat("3", many), "1"+noughts(many)+"."+noughts(many)+"1")
	wantErr(t, api.ErrForm, noughts(many), strings.Repeat("-", many), strings.Repeat("1.", many), strings.Repeat("e", many), strings.Repeat(" ", many)+"1", strings.Repeat("1", many)+" ", "1e"+strings.Repeat("-", many), strings.Repeat("٣", many))
	wantParse(t, "1."+noughts(many), num.Num{Digits: "1"}, api.OK)
	wantParse(t, "-0."+noughts(many)+"E-9", num.Num{}, api.OK)
	wantParse(t, "1e"+noughts(many)+"7", num.Num{Digits: "1", Exp: 7}, api.OK)
	nines := strings.Repeat("9", many)
	for _, s := range []string{"0e" + nines, "0e-" + nines} {
		if n, e := num.Parse(s); n != (num.Num{}) || e != api.OK {
			t.Errorf("Parse of %s: %s, error %d", brief(s), show(n), e)
		}
	}
	for _, s := range []string{"1e" + nines, "1e-" + nines} {
		if n, e := num.Parse(s); n != (num.Num{}) || e != api.ErrBig {
			t.Errorf("Parse of %s: %s, error %d", brief(s), show(n), e)
		}
	}
}

// A text that is no number's, and would be too big: ErrForm, the first one that the promise names.
func TestP141WhichError(t *testing.T) {
	big := []string{strings.Repeat("1", 41), "1e1000", "1e-1000", "1" + noughts(1000), "0." + noughts(999) + "1", "1e" + strings.Repeat("9", 300)}
	for _, s := range big {
		wantErr(t, api.ErrBig, s, "-"+s)
		wantErr(t, api.ErrForm, s+" ", " "+s, s+"x", "0"+s, "+"+s, "--"+s, s+".", s+"e", s+"e+", s+"-", s+"\xff", s+"٣", s+"e5e5", s+"..5")
	}
}

func TestP141ByChance(t *testing.T) {
	chance := rand.New(rand.NewPCG(14, 1))
	told := map[api.Errno]int{}
	for range 100000 {
		s := someText(chance)
		told[wantAsTold(t, s)]++
		at := chance.IntN(len(s))
		told[wantAsTold(t, s[:at]+some(chance, "0", "1", "-", "+", ".", "e", "E", " ", "x", "\xb5")+s[at:])]++
		told[wantAsTold(t, s[:at]+s[at+1:])]++
		told[wantAsTold(t, s[at:]+s[:at])]++
	}
	for _, e := range []api.Errno{api.OK, api.ErrForm, api.ErrBig} {
		if told[e] < 10000 {
			t.Errorf("error %d only %d times", e, told[e])
		}
	}
}

func TestP141Right(t *testing.T) {
	forty, more := figures(40), figures(41)
	for _, n := range []num.Num{
		{}, {Digits: "1"}, {Down: true, Digits: "1"}, {Digits: "9", Exp: 1}, {Digits: "9", Exp: -1}, {Digits: "101"}, {Digits: "1234567890987654321"},
		{Digits: forty}, {Digits: forty, Exp: 999}, {Down: true, Digits: forty, Exp: -999}, {Digits: strings.Repeat("9", 40), Exp: 999},
		{Digits: "1", Exp: 998}, {Digits: "1", Exp: 999}, {Digits: "1", Exp: -998}, {Digits: "1", Exp: -999}, {Digits: "1" + noughts(38) + "1"},
	} {
		wantRight(t, n, true)
	}
	for _, n := range []num.Num{
		{Down: true}, {Exp: 1}, {Exp: -1}, {Down: true, Exp: 1}, {Exp: 999}, {Exp: 1000}, {Exp: math.MaxInt}, {Exp: math.MinInt},
		{Digits: "0"}, {Digits: "00"}, {Down: true, Digits: "0"}, {Digits: "0", Exp: 5}, {Digits: noughts(40)},
		{Digits: "01"}, {Digits: "10"}, {Digits: "010"}, {Digits: "0011"}, {Digits: "1100"}, {Digits: "0" + figures(39)}, {Digits: figures(39) + "0"}, {Digits: "0" + forty}, {Digits: forty + "0"},
		{Digits: more}, {Down: true, Digits: more}, {Digits: more, Exp: -1}, {Digits: figures(42)}, {Digits: figures(100000)}, {Digits: noughts(100000) + "1"},
		{Digits: "1", Exp: 1000}, {Digits: "1", Exp: -1000}, {Digits: forty, Exp: 1000}, {Digits: forty, Exp: -1000}, {Digits: "1", Exp: math.MaxInt}, {Digits: "1", Exp: math.MinInt}, {Digits: "1", Exp: 1 << 32},
		{Digits: "-1"}, {Digits: "+1"}, {Digits: "1-"}, {Digits: "1.5"}, {Digits: "1e5"}, {Digits: " 1"}, {Digits: "1 "}, {Digits: "1 1"}, {Digits: " "}, {Digits: "a"}, {Digits: "1a1"}, {Digits: "1٣1"}, {Digits: "٣"}, {Digits: "１"}, {Digits: "\x00"},
		{Digits: "1\xff1"}, {Digits: "\xff"}, {Digits: "\xb1"}, {Digits: "1\xb11"}, {Digits: "1\n"},
	} {
		wantRight(t, n, false)
	}
	for c := range 256 {
		b := string([]byte{byte(c)})
		for _, d := range []string{b, b + "1", "1" + b, "1" + b + "1", "123" + b + "456"} {
			n := num.Num{Digits: d}
			wantRight(t, n, rightAsTold(n))
		}
	}
	for exp := -1100; exp <= 1100; exp++ {
		wantRight(t, num.Num{Digits: "25", Exp: exp}, exp >= -999 && exp <= 999)
		wantRight(t, num.Num{Exp: exp}, exp == 0)
	}
	for n := 1; n < 100; n++ {
		wantRight(t, num.Num{Down: true, Digits: figures(n), Exp: 3}, n <= 40)
	}
	for _, n := range rightOnes() {
		wantRight(t, n, true)
	}
}
