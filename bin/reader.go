package bin

import (
	"unicode/utf8"

	"rubricator/api"
	"rubricator/json"
	"rubricator/num"
	"rubricator/octet"
)

// reader is bytes, as values are got from them. Those that get tell whether there is such a thing; where there isn't, nothing behind it is got.
type reader struct {
	in   *octet.Reader
	open int // how many arrays and objects are
	gets map[uint64]func(*reader) (json.Value, bool)
}

func newReader(b []byte) *reader { return &reader{in: octet.NewReader(b), gets: getters()} }

// getters are what gets a value, by its first byte.
func getters() map[uint64]func(*reader) (json.Value, bool) {
	return map[uint64]func(*reader) (json.Value, bool){
		markNull:   (*reader).null,
		markFalse:  (*reader).no,
		markTrue:   (*reader).yes,
		markNumber: (*reader).number,
		markString: (*reader).text,
		markArray:  (*reader).array,
		markObject: (*reader).object,
	}
}

func (r *reader) value() (json.Value, bool) {
	mark := r.in.Num(markSize)
	get, is := r.gets[mark]
	// Where no byte is left, the mark is 0, as null's is.
	if !is || r.in.Err() != api.OK {
		return json.Value{}, false
	}
	return get(r)
}

func (r *reader) null() (json.Value, bool) { return json.Value{Kind: json.Null}, true }

func (r *reader) no() (json.Value, bool) { return json.Value{Kind: json.Bool}, true }

func (r *reader) yes() (json.Value, bool) { return json.Value{Kind: json.Bool, Is: true}, true }

func (r *reader) number() (json.Value, bool) {
	s, ok := r.signs()
	n, e := num.Parse(s)
	// A number has many texts, but only one of them is put.
	return json.Value{Kind: json.Number, Num: n}, ok && e == api.OK && num.Text(n) == s
}

func (r *reader) text() (json.Value, bool) {
	s, ok := r.signs()
	return json.Value{Kind: json.String, Text: s}, ok
}

func (r *reader) array() (json.Value, bool) {
	v := json.Value{Kind: json.Array}
	ok := r.row(func() bool { return r.item(&v) })
	return v, ok
}

func (r *reader) object() (json.Value, bool) {
	v := json.Value{Kind: json.Object}
	ok := r.row(func() bool {
		name, ok := r.signs()
		if !ok || !mayFollow(v.Names, name) {
			return false
		}
		v.Names = append(v.Names, name)
		return r.item(&v)
	})
	return v, ok
}

// item gets a value, which becomes one of v's.
func (r *reader) item(v *json.Value) bool {
	x, ok := r.value()
	v.Items = append(v.Items, x)
	return ok
}

// row gets how many things there are, and each of them.
func (r *reader) row(thing func() bool) bool {
	if r.open == api.MaxNest {
		return false
	}
	r.open++
	defer func() { r.open-- }()
	for range r.in.Var() {
		if !thing() {
			return false
		}
	}
	return r.in.Err() == api.OK
}

// signs gets bytes that are UTF-8.
func (r *reader) signs() (string, bool) {
	s := string(r.in.Bytes(r.in.Left()))
	return s, r.in.Err() == api.OK && utf8.ValidString(s)
}
