package truth

import (
	"bytes"
	"math/bits"
	"unicode/utf8"

	"pneumatic/api"
)

// Text returns the text of a function.
func Text(t api.Table) (string, api.Errno) {
	if e := Check(t); e != api.OK {
		return "", e
	}
	text := bytes.Repeat([]byte{'0'}, size(t.N))
	for point := range points(t.Bits) {
		text[point] = '1'
	}
	return string(text), api.OK
}

// Parse reads the text of a function.
func Parse(s string) (api.Table, api.Errno) {
	if utf8.RuneCountInString(s) > size(api.MaxVars) {
		return api.Table{}, api.ErrLong
	}
	var t api.Table
	for point, r := range s {
		switch r {
		case '0':
		case '1':
			t.Bits |= 1 << point
		default:
			return api.Table{}, api.ErrSyntax
		}
	}
	// Now each character is one byte.
	if bits.OnesCount(uint(len(s))) != 1 {
		return api.Table{}, api.ErrShape
	}
	t.N = bits.TrailingZeros(uint(len(s)))
	return t, api.OK
}
