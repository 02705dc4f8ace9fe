package order

import (
	"strings"

	"rubricator/json"
	"rubricator/octet"
)

// What a number's bytes begin with.
const (
	markBelow = iota
	markZero
	markAbove
)

const (
	lift       = 2000 // no height is as far below 0
	heightSize = 2
	digitMore  = 1 // so that the byte that ends the digits is below each of them
	digitsEnd  = 0

	nought     = "\x00"
	noughtHere = "\x00\xff" // a nought of a string's: above what ends one
	stringEnd  = "\x00\x00"
)

// putNumber puts a number's bytes: first its side of 0, then how far it is from 0.
func putNumber(w *octet.Writer, v json.Value) {
	switch {
	case v.Num.Digits == "":
		w.Num(markZero, byteSize)
	case v.Num.Down:
		w.Num(markBelow, byteSize)
		w.Raw(turned(distance(v)))
	default:
		w.Num(markAbove, byteSize)
		w.Raw(distance(v))
	}
}

// distance is bytes that stand as numbers of one side do, by how far they are from 0.
func distance(v json.Value) []byte {
	w := octet.NewWriter()
	height := len(v.Num.Digits) + v.Num.Exp
	w.Num(uint64(height+lift), heightSize)
	for _, c := range []byte(v.Num.Digits) {
		w.Num(uint64(c-'0'+digitMore), byteSize)
	}
	w.Num(digitsEnd, byteSize)
	return w.Out()
}

// turned is bytes that stand the other way round.
func turned(b []byte) []byte {
	l := make([]byte, len(b))
	for i, c := range b {
		l[i] = ^c
	}
	return l
}

// putString puts a string's bytes, so that none begins another one's.
func putString(w *octet.Writer, v json.Value) {
	w.Raw([]byte(strings.ReplaceAll(v.Text, nought, noughtHere)))
	w.Raw([]byte(stringEnd))
}
