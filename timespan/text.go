package timespan

import (
	"strconv"
	"strings"

	"pneumatic/api"
)

const (
	points     = ".."
	mostDigits = 7
)

// Format returns the text of a span.
func Format(a api.Span) (string, api.Errno) {
	if e := Check(a); e != api.OK {
		return "", e
	}
	text := strconv.Itoa(a.Low)
	if a.High > a.Low {
		text += points + strconv.Itoa(a.High)
	}
	return text, api.OK
}

// Parse returns the span with a text.
func Parse(s string) (api.Span, api.Errno) {
	if len(s) > api.MaxName {
		return api.Span{}, api.ErrSyntax
	}
	first, second, both := strings.Cut(s, points)
	if !both {
		second = first
	}
	if !isNumber(first) || !isNumber(second) {
		return api.Span{}, api.ErrSyntax
	}
	a, e := Of(value(first), value(second))
	if e != api.OK {
		return api.Span{}, e
	}
	if both && a.Low == a.High {
		return api.Span{}, api.ErrForm
	}
	return a, api.OK
}

// isNumber reports whether a text is a number that is not too long.
func isNumber(text string) bool {
	if text == "" || len(text) > mostDigits || text[0] == '0' && text != "0" {
		return false
	}
	for i := range len(text) {
		if text[i] < '0' || text[i] > '9' {
			return false
		}
	}
	return true
}

// value returns the value of a text that is a number.
func value(text string) int {
	n := 0
	for i := range len(text) {
		n = n*10 + int(text[i]-'0')
	}
	return n
}
