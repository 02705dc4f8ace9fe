package bin

import (
	"rubricator/json"
	"rubricator/num"
	"rubricator/octet"
)

// put puts the bytes of a value that is Right.
func put(w *octet.Writer, v json.Value) {
	w.Num(markOf(v), markSize)
	switch v.Kind {
	case json.Number:
		w.Bytes([]byte(num.Text(v.Num)))
	case json.String:
		w.Bytes([]byte(v.Text))
	case json.Array, json.Object:
		putItems(w, v)
	}
}

func putItems(w *octet.Writer, v json.Value) {
	w.Var(uint64(len(v.Items)))
	for i, x := range v.Items {
		if v.Kind == json.Object {
			w.Bytes([]byte(v.Names[i]))
		}
		put(w, x)
	}
}

// markOf is what the bytes of a value that is Right begin with.
func markOf(v json.Value) uint64 {
	switch v.Kind {
	case json.Bool:
		if v.Is {
			return markTrue
		}
		return markFalse
	case json.Number:
		return markNumber
	case json.String:
		return markString
	case json.Array:
		return markArray
	case json.Object:
		return markObject
	}
	return markNull
}
