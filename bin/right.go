package bin

import (
	"unicode/utf8"

	"rubricator/json"
	"rubricator/num"
)

// rightWithin tells whether a value may be, with so many arrays and objects within one another at most.
func rightWithin(v json.Value, most int) bool {
	if nests(v.Kind) {
		// Ahead of the Items: what is far too deep is not gone through.
		most--
	}
	if most < 0 || !isKind(v.Kind) || !hasJustItsOwn(v) {
		return false
	}
	if !num.Right(v.Num) || !utf8.ValidString(v.Text) || !rightNames(v) {
		return false
	}
	for _, x := range v.Items {
		if !rightWithin(x, most) {
			return false
		}
	}
	return true
}

// nests tells whether values of a Kind have Items.
func nests(kind int) bool { return kind == json.Array || kind == json.Object }

func isKind(kind int) bool { return json.Null <= kind && kind <= json.Object }

// hasJustItsOwn tells whether all is empty that isn't of a value's Kind.
func hasJustItsOwn(v json.Value) bool {
	return (v.Kind == json.Bool || !v.Is) &&
		(v.Kind == json.Number || v.Num == num.Num{}) &&
		(v.Kind == json.String || v.Text == "") &&
		(nests(v.Kind) || len(v.Items) == 0) &&
		(v.Kind == json.Object || len(v.Names) == 0)
}

// rightNames tells whether an object has a name for each Item, and they may be; what is no object has none.
func rightNames(v json.Value) bool {
	if v.Kind == json.Object && len(v.Names) != len(v.Items) {
		return false
	}
	for i, name := range v.Names {
		if !mayFollow(v.Names[:i], name) {
			return false
		}
	}
	return true
}

// mayFollow tells whether a name may stand behind others, all of which may be.
func mayFollow(names []string, name string) bool {
	n := len(names)
	return utf8.ValidString(name) && (n == 0 || names[n-1] < name)
}
