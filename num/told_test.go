package num_test

import (
	"fmt"
	"math/big"
	"math/rand/v2"
	"regexp"
	"strings"
	"testing"

	"rubricator/api"
	"rubricator/num"
)

// The words of the chapter, told again.

var numbersText = regexp.MustCompile(`\A(-?)(0|[1-9][0-9]*)(?:\.([0-9]+))?(?:[eE]([-+]?[0-9]+))?\z`)

// parseAsTold takes noughts off one by one, and counts with numbers that have no bounds.
func parseAsTold(s string) (num.Num, api.Errno) {
	m := numbersText.FindStringSubmatch(s)
	if m == nil {
		return num.Num{}, api.ErrForm
	}
	exp := new(big.Int)
	if m[4] != "" {
		exp.SetString(m[4], 10)
	}
	exp.Sub(exp, big.NewInt(int64(len(m[3]))))
	d := m[2] + m[3]
	for ; len(d) > 0 && d[0] == '0'; d = d[1:] {
	}
	for ; len(d) > 0 && d[len(d)-1] == '0'; d = d[:len(d)-1] {
		exp.Add(exp, big.NewInt(1))
	}
	if d == "" {
		return num.Num{}, api.OK
	}
	if !exp.IsInt64() {
		return num.Num{}, api.ErrBig
	}
	n := num.Num{Down: m[1] != "", Digits: d, Exp: int(exp.Int64())}
	if !rightAsTold(n) {
		return num.Num{}, api.ErrBig
	}
	return n, api.OK
}

func rightAsTold(n num.Num) bool {
	if n.Digits == "" {
		return n.Exp == 0 && !n.Down
	}
	for i := range len(n.Digits) {
		if n.Digits[i] < '0' || n.Digits[i] > '9' {
			return false
		}
	}
	last := len(n.Digits) - 1
	return n.Digits[0] != '0' && n.Digits[last] != '0' && last < 40 && -999 <= n.Exp && n.Exp <= 999
}

func textAsTold(n num.Num) string {
	s := ""
	switch {
	case n.Digits == "":
		return "0"
	case n.Exp != 0:
		s = fmt.Sprintf("e%d", n.Exp)
	}
	if n.Down {
		return "-" + n.Digits + s
	}
	return n.Digits + s
}

// value is a Num's number times 10 to the power of 999, which is a whole one of each Num that is Right.
func value(n num.Num) *big.Int {
	x, ok := new(big.Int).SetString("0"+n.Digits, 10)
	if !ok {
		panic("the test itself is wrong")
	}
	if n.Down {
		x.Neg(x)
	}
	return x.Mul(x, power(n.Exp+999))
}

func power(exp int) *big.Int { return new(big.Int).Exp(big.NewInt(10), big.NewInt(int64(exp)), nil) }

func compareAsTold(a, b num.Num) int { return value(a).Cmp(value(b)) }

// What the tests are made of.

func wantParse(t *testing.T, s string, want num.Num, e api.Errno) {
	t.Helper()
	if n, got := num.Parse(s); n != want || got != e {
		t.Errorf("Parse of %s: %s, error %d, want %s, error %d", brief(s), show(n), got, show(want), e)
	}
	if n, got := parseAsTold(s); n != want || got != e {
		t.Errorf("%s: the test itself is wrong: %s, error %d", brief(s), show(n), got)
	}
}

// wantAsTold holds Parse against the chapter's words; the error that they tell.
func wantAsTold(t *testing.T, s string) api.Errno {
	t.Helper()
	want, e := parseAsTold(s)
	if n, got := num.Parse(s); n != want || got != e {
		t.Errorf("Parse of %s: %s, error %d, want %s, error %d", brief(s), show(n), got, show(want), e)
	}
	return e
}

func wantErr(t *testing.T, e api.Errno, l ...string) {
	t.Helper()
	for _, s := range l {
		wantParse(t, s, num.Num{}, e)
	}
}

func wantRight(t *testing.T, n num.Num, want bool) {
	t.Helper()
	if got := num.Right(n); got != want {
		t.Errorf("Right of %s: %v", show(n), got)
	}
	if rightAsTold(n) != want {
		t.Errorf("%s: the test itself is wrong", show(n))
	}
}

// brief is a text, as it is told of: not all of it, if it is very long.
func brief(s string) string {
	if len(s) > 200 {
		return fmt.Sprintf("%q and so on, %d bytes", s[:100], len(s))
	}
	return fmt.Sprintf("%q", s)
}

// show is a Num, as it is told of.
func show(n num.Num) string {
	return fmt.Sprintf("(down %v, digits %s, exp %d)", n.Down, brief(n.Digits), n.Exp)
}

func noughts(n int) string { return strings.Repeat("0", n) }

// figures are n digits, of which the first one and the last one are no noughts.
func figures(n int) string { return strings.Repeat("1020304567", n/10+1)[:n-1] + "9" }

func some[T any](chance *rand.Rand, l ...T) T { return l[chance.IntN(len(l))] }

// someDigits are n digits, many of them noughts.
func someDigits(chance *rand.Rand, n int) string {
	b := make([]byte, n)
	for i := range b {
		b[i] = "0000012345678999"[chance.IntN(16)]
	}
	return string(b)
}

// someText is a number's text.
func someText(chance *rand.Rand) string {
	s := some(chance, "", "-") + some(chance, "0", "1", "9"+someDigits(chance, chance.IntN(45)), "2"+noughts(chance.IntN(1005)))
	if chance.IntN(2) == 0 {
		s += "." + some(chance, "", noughts(chance.IntN(1005))) + someDigits(chance, 1+chance.IntN(45))
	}
	if chance.IntN(2) == 0 {
		s += some(chance, "e", "E") + some(chance, "", "+", "-") + some(chance, "", "0", noughts(9)) + fmt.Sprint(chance.IntN(some(chance, 20, 1100)))
	}
	return s
}

// someNum is one that is Right; small ones are often alike.
func someNum(chance *rand.Rand) num.Num {
	for {
		d := strings.Trim(someDigits(chance, 1+chance.IntN(some(chance, 3, 40))), "0")
		if d == "" {
			return num.Num{}
		}
		n := num.Num{Down: chance.IntN(2) == 0, Digits: d, Exp: chance.IntN(some(chance, 5, 1000))}
		if chance.IntN(2) == 0 {
			n.Exp = -n.Exp
		}
		if rightAsTold(n) {
			return n
		}
	}
}

// rightOnes are Nums at all edges, each one once.
func rightOnes() []num.Num {
	l := []num.Num{{}}
	for _, d := range []string{"1", "2", "9", "11", "12", "15", "101", "109", "19", "99", "999", "1499", "1501", "1000000001", figures(39), figures(40), strings.Repeat("9", 40), strings.Repeat("1", 40), "1" + noughts(38) + "1"} {
		for _, exp := range []int{-999, -998, -960, -959, -100, -41, -40, -39, -10, -3, -2, -1, 0, 1, 2, 3, 9, 10, 38, 39, 40, 41, 100, 959, 960, 998, 999} {
			l = append(l, num.Num{Digits: d, Exp: exp}, num.Num{Down: true, Digits: d, Exp: exp})
		}
	}
	return l
}
