package num_test

import (
	"cmp"
	"math"
	"math/rand/v2"
	"strings"
	"testing"

	"rubricator/api"
	"rubricator/num"
)

// P14.2

func wantText(t *testing.T, n num.Num, want string) {
	t.Helper()
	if got := num.Text(n); got != want {
		t.Errorf("Text of %s: %s, want %s", show(n), got, want)
	}
	if textAsTold(n) != want {
		t.Errorf("%s: the test itself is wrong", show(n))
	}
}

// wantCompare holds two either way round.
func wantCompare(t *testing.T, a, b num.Num, want int) {
	t.Helper()
	if got := num.Compare(a, b); got != want {
		t.Errorf("Compare of %s and %s: %d, want %d", num.Text(a), num.Text(b), got, want)
	}
	if got := num.Compare(b, a); got != -want {
		t.Errorf("Compare of %s and %s: %d, want %d", num.Text(b), num.Text(a), got, -want)
	}
}

func numOf(t *testing.T, s string) num.Num {
	t.Helper()
	n, e := num.Parse(s)
	if e != api.OK {
		t.Fatalf("Parse of %s: error %d", brief(s), e)
	}
	return n
}

func TestP142Examples(t *testing.T) {
	for _, x := range [][2]string{{"1500", "15e2"}, {"-0.250", "-25e-2"}} {
		if got := num.Text(numOf(t, x[0])); got != x[1] {
			t.Errorf("%s: %s, want %s", x[0], got, x[1])
		}
	}
}

func TestP142Text(t *testing.T) {
	forty := figures(40)
	for _, x := range []struct {
		n    num.Num
		want string
	}{
		{num.Num{}, "0"},
		{num.Num{Digits: "7"}, "7"}, {num.Num{Down: true, Digits: "7"}, "-7"}, {num.Num{Digits: "101"}, "101"},
		{num.Num{Digits: "1", Exp: 1}, "1e1"}, {num.Num{Digits: "1", Exp: -1}, "1e-1"}, {num.Num{Down: true, Digits: "1", Exp: 1}, "-1e1"}, {num.Num{Down: true, Digits: "1", Exp: -1}, "-1e-1"},
		{num.Num{Digits: "15", Exp: 10}, "15e10"}, {num.Num{Digits: "15", Exp: -10}, "15e-10"}, {num.Num{Digits: "15", Exp: 100}, "15e100"}, {num.Num{Digits: "15", Exp: -100}, "15e-100"},
		{num.Num{Digits: "9", Exp: 999}, "9e999"}, {num.Num{Digits: "9", Exp: -999}, "9e-999"}, {num.Num{Down: true, Digits: "9", Exp: -999}, "-9e-999"},
		{num.Num{Digits: forty}, forty}, {num.Num{Down: true, Digits: forty, Exp: 999}, "-" + forty + "e999"},
	} {
		wantText(t, x.n, x.want)
	}
	for _, n := range rightOnes() {
		wantText(t, n, textAsTold(n))
	}
	for exp := -999; exp <= 999; exp++ {
		for _, down := range []bool{false, true} {
			n := num.Num{Down: down, Digits: "13", Exp: exp}
			wantText(t, n, textAsTold(n))
		}
	}
	chance := rand.New(rand.NewPCG(14, 2))
	for range 20000 {
		n := someNum(chance)
		wantText(t, n, textAsTold(n))
	}
}

// rising are the texts of numbers above 0 that rise.
func rising() []string {
	forty, least := strings.Repeat("9", 40), "1"+noughts(38)+"1"
	return []string{
		"1e-999", "2e-999", "9e-999", "1e-998", "11e-999", "12e-999", "2e-998", "99e-999", "1e-997", "101e-999", least + "e-999", forty + "e-999", "1e-959", "1e-958", "1e-500", "9e-500", "1e-499",
		"0.001", "0.0015", "0.002", "0.01", "0.09", "0.0999", "0.1", "0.11", "0.111", "0.12", "0.19", "0.1901", "0.2", "0.9", "0." + forty,
		"1", "1." + noughts(38) + "1", "1.5", "1.50001", "1.6", "2", "7", "9", "9.99", "10", "10.5", "11", "12", "15", "19", "20", "99", "99.9",
		"100", "101", "110", "149", "150", "150.1", "151", "1499", "1499.9", "1500", "1500.01", "1501", "1510", "2000", "1e4", "12345", "123450", "123451", "1234500",
		"1e20", "1" + noughts(19) + "1", "11e20", "2e21", least, forty, "1e40", "1e500", "1.5e500", "2e500", "1e501",
		"1e998", "1.1e998", "9e998", "1e999", "101e997", "11e998", "11e999", "12e999", "99e999", "101e999", least + "e999", forty + "e999",
	}
}

// Numbers that rise, those below 0 and 0 among them, each held against each.
func TestP142CompareRising(t *testing.T) {
	l := []num.Num{{}}
	for _, s := range rising() {
		n := numOf(t, s)
		below := n
		below.Down = true
		l = append([]num.Num{below}, append(l, n)...)
	}
	for i, a := range l {
		for j, b := range l {
			wantCompare(t, a, b, cmp.Compare(i, j))
		}
	}
}

func TestP142Compare(t *testing.T) {
	for _, x := range []struct {
		a, b string
		want int
	}{
		{"0", "0", 0}, {"0", "1", -1}, {"0", "-1", 1}, {"0", "1e-999", -1}, {"0", "-1e-999", 1}, {"0", "1e999", -1}, {"0", "-1e999", 1},
		{"1", "1", 0}, {"-1", "-1", 0}, {"-1", "1", -1}, {"-9e999", "1e-999", -1}, {"-1e-999", "9e999", -1}, {"-5", "5", -1},
		{"15", "16", -1}, {"-15", "-16", 1}, {"15", "15e1", -1}, {"-15", "-15e1", 1}, {"15e1", "16", 1}, {"15e-1", "16e-1", -1}, {"99", "1e2", -1}, {"99e-1", "1e1", -1}, {"-99", "-1e2", 1},
		{"1", "15", -1}, {"1e1", "15", -1}, {"-1e1", "-15", 1}, {"15", "152", -1}, {"15e1", "152", -1}, {"15e2", "152", 1}, {"-15e1", "-152", 1}, {"1.5", "1.52", -1}, {"15e1", "1501e-1", -1},
		{"1500", "15e2", 0}, {"150e1", "1.5e3", 0}, {"-0.250", "-25e-2", 0}, {"1.0", "1", 0}, {"-0", "0", 0}, {"0e99", "0.00", 0}, {"100", "1e2", 0}, {"2e0", "2", 0}, {"1e999", "10e998", 0}, {"1e-999", "0.1e-998", 0},
		{"9e998", "1e999", -1}, {"99e998", "1e999", 1}, {"1e-999", "2e-999", -1}, {"9e-999", "1e-998", -1}, {"11e-999", "1e-998", 1}, {"1e-999", "1e999", -1}, {"-1e-999", "-1e999", 1}, {"1e999", "1e999", 0},
		{"9999999999999999999999999999999999999999e-999", "1e-959", -1}, {"1e999", "9999999999999999999999999999999999999999e999", -1},
		{"9007199254740992", "9007199254740993", -1}, {"0.1", "0.1000000000000000055511151231257827", -1}, {"18446744073709551616", "18446744073709551615", 1},
	} {
		wantCompare(t, numOf(t, x.a), numOf(t, x.b), x.want)
	}
}

func TestP142CompareAsTold(t *testing.T) {
	l := rightOnes()
	for _, a := range l {
		for i := 0; i < len(l); i += 7 {
			wantCompare(t, a, l[i], compareAsTold(a, l[i]))
		}
	}
	chance := rand.New(rand.NewPCG(14, 3))
	for range 30000 {
		a, b := someNum(chance), someNum(chance)
		wantCompare(t, a, b, compareAsTold(a, b))
		b.Down = a.Down
		if rightAsTold(b) {
			wantCompare(t, a, b, compareAsTold(a, b))
		}
		wantCompare(t, a, a, 0)
	}
}

// What isn't Right has some answer, which is the same again.
func TestP142OfWhatIsNotRight(t *testing.T) {
	l := []num.Num{{}, {Digits: "15", Exp: 2}, {Down: true, Digits: "15", Exp: 2}, {Down: true}, {Exp: 5}, {Exp: math.MaxInt}, {Down: true, Exp: math.MinInt}, {Digits: "0"}, {Digits: "00", Exp: -1}, {Digits: "1500"}, {Digits: "015"},
		{Digits: "1", Exp: math.MaxInt}, {Digits: "1", Exp: math.MinInt}, {Digits: "\xff\x00"}, {Digits: "a"}, {Digits: "-1"}, {Digits: figures(100000), Exp: 1000}, {Digits: strings.Repeat("٣", 50), Exp: -1000}}
	for _, a := range l {
		if num.Text(a) != num.Text(a) || num.Right(a) != num.Right(a) {
			t.Errorf("%s: another answer", show(a))
		}
		for _, b := range l {
			if num.Compare(a, b) != num.Compare(a, b) {
				t.Errorf("%s, %s: another answer", show(a), show(b))
			}
		}
	}
}

// P14.3

// wantBack holds that a Text is parsed as its Num.
func wantBack(t *testing.T, n num.Num) {
	t.Helper()
	if got, e := num.Parse(num.Text(n)); got != n || e != api.OK {
		t.Errorf("%s, put as %s: %s, error %d", show(n), num.Text(n), show(got), e)
	}
}

func TestP143ATextIsParsedAsItsNum(t *testing.T) {
	for _, n := range rightOnes() {
		wantBack(t, n)
	}
	for exp := -999; exp <= 999; exp++ {
		wantBack(t, num.Num{Digits: "7", Exp: exp})
		wantBack(t, num.Num{Down: true, Digits: figures(40), Exp: exp})
	}
	for n := 1; n <= 40; n++ {
		wantBack(t, num.Num{Digits: figures(n)})
		wantBack(t, num.Num{Down: true, Digits: figures(n), Exp: -n})
	}
	chance := rand.New(rand.NewPCG(14, 4))
	for range 50000 {
		wantBack(t, someNum(chance))
		n, e := num.Parse(someText(chance))
		if e != api.OK {
			continue
		}
		if !num.Right(n) {
			t.Errorf("%s isn't Right", show(n))
		}
		wantBack(t, n)
	}
}

// Two have one number just if they are the same; and so have their Texts.
func TestP143OneNumberOneNum(t *testing.T) {
	l := rightOnes()
	texts := map[string]num.Num{}
	for _, n := range l {
		if other, is := texts[num.Text(n)]; is {
			t.Errorf("%s and %s: one Text", show(n), show(other))
		}
		texts[num.Text(n)] = n
	}
	chance := rand.New(rand.NewPCG(14, 5))
	alike := 0
	for range 100000 {
		a, b := someNum(chance), someNum(chance)
		same := a == b
		if same {
			alike++
		}
		if compareAsTold(a, b) == 0 != same || num.Compare(a, b) == 0 != same || num.Text(a) == num.Text(b) != same {
			t.Errorf("%s, %s: one number, or not", show(a), show(b))
		}
	}
	if alike < 100 {
		t.Errorf("only %d times the same", alike)
	}
}

// A number's texts, wherever the point stands and whatever the exponent is, are all parsed as one Num.
func TestP143OneNumberManyTexts(t *testing.T) {
	for _, x := range []struct {
		want num.Num
		l    []string
	}{
		{num.Num{Digits: "15", Exp: 2}, []string{"1500", "1500.0", "150e1", "15e2", "15E+2", "1.5e3", "1.50e+03", "0.15e4", "0.015e5", "15000e-1", "150000E-02", "1500e0"}},
		{num.Num{Down: true, Digits: "25", Exp: -2}, []string{"-0.25", "-0.250", "-25e-2", "-2.5e-1", "-250e-3", "-0.025e1", "-0.0025E+02", "-0.25e0", "-0.250000e-0"}},
		{num.Num{Digits: "1"}, []string{"1", "1.0", "10e-1", "0.1e1", "1e0", "1E-0", "100.00e-2", "0.001e3"}},
		{num.Num{}, []string{"0", "-0", "0.0", "0e9", "-0.00E-99", "0e-1200"}},
	} {
		for _, s := range x.l {
			wantParse(t, s, x.want, api.OK)
			wantCompare(t, numOf(t, s), x.want, 0)
		}
	}
}
