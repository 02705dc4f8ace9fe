package json

import (
	"strconv"
	"strings"
	"unicode/utf8"
)

const (
	backslash = '\\'
	quote     = '"'
	space     = ' ' // below it are bytes that no string has as they are

	shortBytes = 2 // of a backslash and a letter
	longBytes  = 6 // of \u and four digits
	sixteen    = 16
	digitBits  = 4

	firstHalf  = 55296 // from it on are the first numbers of pairs
	secondHalf = 56320 // from it on the second ones
	noHalf     = 57344 // and from it on none any more
	firstPair  = 65536 // the sign of the first pair
	halves     = 1024  // second numbers, to each first one
)

// quoted reads a string, and what it tells; false, if none stands there.
func (r *reader) quoted() (string, bool) {
	s, is := strings.CutPrefix(r.rest, string(quote))
	if !is {
		return "", false
	}
	var b []byte
	next := 0 // bytes ahead of it are told already
	for i, c := range s {
		if i < next {
			continue
		}
		switch {
		case c == quote:
			r.rest = s[i+1:]
			return string(b), true
		case c == backslash:
			sign, n := escaped(s[i:])
			if n == 0 {
				return "", false
			}
			c, next = sign, i+n
		case c < space || broken(s[i:], c):
			return "", false
		}
		b = utf8.AppendRune(b, c)
	}
	return "", false
}

// broken tells whether c, which a range had from what s begins with, stands for bytes that are no UTF-8.
func broken(s string, c rune) bool {
	return c == utf8.RuneError && !strings.HasPrefix(s, string(utf8.RuneError))
}

// escaped is the sign that s, from a backslash on, begins with, and how many bytes tell it: 0, if there is none.
func escaped(s string) (rune, int) {
	if len(s) < shortBytes {
		return 0, 0
	}
	switch c := s[1]; c {
	case quote, backslash, '/':
		return rune(c), shortBytes
	case 'b':
		return '\b', shortBytes
	case 'f':
		return '\f', shortBytes
	case 'n':
		return '\n', shortBytes
	case 'r':
		return '\r', shortBytes
	case 't':
		return '\t', shortBytes
	}
	return numbered(s)
}

// numbered is likewise the sign of a number, or of a pair of them.
func numbered(s string) (rune, int) {
	x, ok := numberOf(s)
	if !ok {
		return 0, 0
	}
	if x < firstHalf || x >= noHalf {
		return x, longBytes
	}
	y, ok := numberOf(s[longBytes:])
	if !ok || x >= secondHalf || y < secondHalf || y >= noHalf {
		return 0, 0
	}
	return firstPair + halves*(x-firstHalf) + y - secondHalf, longBytes + longBytes
}

// numberOf is the number that s begins with, written as \u and four digits of 16.
func numberOf(s string) (rune, bool) {
	if len(s) < longBytes || !strings.HasPrefix(s, `\u`) {
		return 0, false
	}
	x, err := strconv.ParseUint(s[shortBytes:longBytes], sixteen, sixteen)
	return rune(x), err == nil
}
