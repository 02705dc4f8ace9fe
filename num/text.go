package num

import "strings"

// farOff is a power of 10 so great that no text has digits enough to bring it back to one that may be.
const farOff = 1 << 40

// text is a number's text, part by part.
type text struct {
	down   bool
	ahead  string // digits ahead of the point
	behind string // digits behind it
	under  bool   // the power is one below 0
	power  string // digits
}

// read is what a text is, if it is a number's.
func read(s string) (text, bool) {
	var t text
	// Each one takes its part off the text, and tells whether there is one that may be.
	parts := []func() bool{
		func() bool {
			s, t.down = strings.CutPrefix(s, "-")
			return true
		},
		func() bool {
			t.ahead, s = cutDigits(s)
			return t.ahead == nought || t.ahead != "" && !strings.HasPrefix(t.ahead, nought)
		},
		func() bool {
			rest, is := strings.CutPrefix(s, ".")
			if !is {
				return true
			}
			t.behind, s = cutDigits(rest)
			return t.behind != ""
		},
		func() bool {
			rest, is := cutEither(s, "e", "E")
			if !is {
				return true
			}
			rest, t.under = strings.CutPrefix(rest, "-")
			if !t.under {
				rest = strings.TrimPrefix(rest, "+")
			}
			t.power, s = cutDigits(rest)
			return t.power != ""
		},
	}
	for _, part := range parts {
		if !part() {
			return text{}, false
		}
	}
	return t, s == ""
}

// num is its number, in the form that numbers have; it may have too many digits, or too great a power.
func (t text) num() Num {
	all := strings.TrimLeft(t.ahead+t.behind, nought)
	if all == "" {
		return Num{}
	}
	exp := powerOf(t.power)
	if t.under {
		exp = -exp
	}
	short := strings.TrimRight(all, nought)
	// Cloned, so that a few digits don't keep a long text.
	return Num{Down: t.down, Digits: strings.Clone(short), Exp: exp - len(t.behind) + len(all) - len(short)}
}

// powerOf is the number that digits tell, but at most one that is far off.
func powerOf(s string) int {
	x := 0
	for _, c := range []byte(s) {
		x = min(ten*x+int(c-'0'), farOff)
	}
	return x
}

// cutDigits is the digits that a text begins with, and what is behind them.
func cutDigits(s string) (string, string) {
	rest := strings.TrimLeft(s, digits)
	return s[:len(s)-len(rest)], rest
}

// cutEither is what is behind the one of two that a text begins with, if it begins with one.
func cutEither(s, a, b string) (string, bool) {
	if rest, is := strings.CutPrefix(s, a); is {
		return rest, true
	}
	return strings.CutPrefix(s, b)
}
