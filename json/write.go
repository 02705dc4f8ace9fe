package json

import "rubricator/num"

const digits16 = "0123456789abcdef"

// appendValue is b with a value's text behind it.
func appendValue(b []byte, v Value) []byte {
	switch v.Kind {
	case Null:
		return append(b, wordNull...)
	case Bool:
		return append(b, wordOf(v.Is)...)
	case Number:
		return append(b, num.Text(v.Num)...)
	case String:
		return appendQuoted(b, v.Text)
	case Array:
		return appendItems(b, v)
	case Object:
		return appendMembers(b, v)
	}
	return b
}

func wordOf(is bool) string {
	if is {
		return wordTrue
	}
	return wordFalse
}

func appendItems(b []byte, v Value) []byte {
	b = append(b, '[')
	for i, x := range v.Items {
		b = appendComma(b, i)
		b = appendValue(b, x)
	}
	return append(b, ']')
}

func appendMembers(b []byte, v Value) []byte {
	b = append(b, '{')
	for i := range members(v) {
		b = appendComma(b, i)
		b = appendQuoted(b, v.Names[i])
		b = append(b, ':')
		b = appendValue(b, v.Items[i])
	}
	return append(b, '}')
}

// appendComma is b with what stands ahead of thing i.
func appendComma(b []byte, i int) []byte {
	if i == 0 {
		return b
	}
	return append(b, ',')
}

// appendQuoted is b with a string behind it, which tells s.
func appendQuoted(b []byte, s string) []byte {
	b = append(b, quote)
	for _, c := range []byte(s) {
		switch {
		case c == quote || c == backslash:
			b = append(b, backslash, c)
		case c < space:
			b = append(b, `\u00`...)
			b = append(b, digits16[c/sixteen], digits16[c%sixteen])
		default:
			b = append(b, c)
		}
	}
	return append(b, quote)
}
