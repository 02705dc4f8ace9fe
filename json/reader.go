package json

import (
	"slices"
	"strings"

	"rubricator/api"
	"rubricator/num"
)

// What texts are made of.
const (
	wordNull  = "null"
	wordTrue  = "true"
	wordFalse = "false"
	blanks    = " \t\n\r"
	digits    = "0123456789"
	numbers   = digits + "+-.eE"
)

// reader is a text, as it is read.
type reader struct {
	rest   string                             // what is not read yet
	open   int                                // how many brackets are
	begins map[byte]func() (Value, api.Errno) // what reads a value, by its first byte
}

func newReader(s string) *reader {
	r := &reader{rest: s}
	r.begins = map[byte]func() (Value, api.Errno){
		'n': r.null,
		't': r.yes,
		'f': r.no,
		'"': r.text,
		'[': r.array,
		'{': r.object,
		'-': r.number,
	}
	for _, c := range []byte(digits) {
		r.begins[c] = r.number
	}
	return r
}

// value reads one, and the blanks ahead of it, as all that read do.
func (r *reader) value() (Value, api.Errno) {
	r.blanks()
	if r.rest == "" {
		return Value{}, api.ErrForm
	}
	read, is := r.begins[r.rest[0]]
	if !is {
		return Value{}, api.ErrForm
	}
	return read()
}

func (r *reader) null() (Value, api.Errno) { return r.word(wordNull, Value{Kind: Null}) }

func (r *reader) yes() (Value, api.Errno) { return r.word(wordTrue, Value{Kind: Bool, Is: true}) }

func (r *reader) no() (Value, api.Errno) { return r.word(wordFalse, Value{Kind: Bool}) }

// word is v, if its word stands there.
func (r *reader) word(w string, v Value) (Value, api.Errno) {
	if !r.cut(w) {
		return Value{}, api.ErrForm
	}
	return v, api.OK
}

func (r *reader) number() (Value, api.Errno) {
	rest := strings.TrimLeft(r.rest, numbers)
	n, e := num.Parse(r.rest[:len(r.rest)-len(rest)])
	r.rest = rest
	return Value{Kind: Number, Num: n}, e
}

func (r *reader) text() (Value, api.Errno) {
	s, ok := r.quoted()
	if !ok {
		return Value{}, api.ErrForm
	}
	return Value{Kind: String, Text: s}, api.OK
}

func (r *reader) array() (Value, api.Errno) {
	v := Value{Kind: Array}
	e := r.row("[", "]", func() api.Errno {
		x, e := r.value()
		v.Items = append(v.Items, x)
		return e
	})
	return v, e
}

func (r *reader) object() (Value, api.Errno) {
	v := Value{Kind: Object}
	e := r.row("{", "}", func() api.Errno { return r.member(&v) })
	return v, e
}

// member reads one, which becomes one of v's.
func (r *reader) member(v *Value) api.Errno {
	r.blanks()
	name, ok := r.quoted()
	if !ok {
		return api.ErrForm
	}
	at, has := Find(*v, name)
	if has {
		return api.ErrTwice
	}
	if !r.sign(":") {
		return api.ErrForm
	}
	x, e := r.value()
	v.Names = slices.Insert(v.Names, at, name)
	v.Items = slices.Insert(v.Items, at, x)
	return e
}

// row reads things with commas between them, perhaps none, from one bracket to the other.
func (r *reader) row(front, end string, thing func() api.Errno) api.Errno {
	if r.open == api.MaxNest {
		return api.ErrDeep
	}
	r.open++
	defer func() { r.open-- }()
	r.sign(front)
	if r.sign(end) {
		return api.OK
	}
	for {
		if e := thing(); e != api.OK {
			return e
		}
		if r.sign(end) {
			return api.OK
		}
		if !r.sign(",") {
			return api.ErrForm
		}
	}
}

// sign reads a sign, if it stands there.
func (r *reader) sign(s string) bool {
	r.blanks()
	return r.cut(s)
}

func (r *reader) blanks() { r.rest = strings.TrimLeft(r.rest, blanks) }

// cut takes s off, if it stands there.
func (r *reader) cut(s string) bool {
	rest, is := strings.CutPrefix(r.rest, s)
	r.rest = rest
	return is
}
