package implicant

import (
	"bytes"
	"unicode/utf8"

	"pneumatic/api"
)

// Text returns the text of a cube.
func Text(n int, c api.Cube) (string, api.Errno) {
	if e := Check(n, c); e != api.OK {
		return "", e
	}
	text := bytes.Repeat([]byte{'-'}, n)
	for i := range text {
		if c.Care>>i&1 == 1 {
			text[i] = '0' + byte(c.Value>>i&1)
		}
	}
	return string(text), api.OK
}

// Parse reads the text of a cube.
func Parse(s string) (int, api.Cube, api.Errno) {
	if utf8.RuneCountInString(s) > api.MaxVars {
		return 0, api.Cube{}, api.ErrLong
	}
	var c api.Cube
	for i, r := range s {
		switch r {
		case '-':
		case '0':
			c.Care |= 1 << i
		case '1':
			c.Care |= 1 << i
			c.Value |= 1 << i
		default:
			return 0, api.Cube{}, api.ErrSyntax
		}
	}
	return len(s), c, api.OK
}
