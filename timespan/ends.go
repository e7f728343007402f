package timespan

import "pneumatic/api"

// isTime reports whether a number is a time.
func isTime(t int) bool {
	return t >= 0 && t <= api.MaxTime
}

// lesser returns the lesser one of two times; the builtin min cannot be passed as a function.
func lesser(x, y int) int {
	return min(x, y)
}

// greater returns the greater one of two times; the builtin max cannot be passed as a function.
func greater(x, y int) int {
	return max(x, y)
}

// combine returns what two functions make of both low ends, and of both high ends; it need not be a span.
func combine(a, b api.Span, low, high func(x, y int) int) (api.Span, api.Errno) {
	if e := checkAll(a, b); e != api.OK {
		return api.Span{}, e
	}
	return api.Span{Low: low(a.Low, b.Low), High: high(a.High, b.High)}, api.OK
}

// limit returns a span, or ErrLarge if its High is too large.
func limit(a api.Span) (api.Span, api.Errno) {
	if a.High > api.MaxTime {
		return api.Span{}, api.ErrLarge
	}
	return a, api.OK
}

// checkAll returns the first error of Check.
func checkAll(l ...api.Span) api.Errno {
	for _, a := range l {
		if e := Check(a); e != api.OK {
			return e
		}
	}
	return api.OK
}

// fold returns what an operation makes of 0 to 0 and the spans of a list, from left to right, or its first error.
func fold(operation func(a, b api.Span) (api.Span, api.Errno), l ...api.Span) (api.Span, api.Errno) {
	var result api.Span
	for _, a := range l {
		var e api.Errno
		if result, e = operation(result, a); e != api.OK {
			return api.Span{}, e
		}
	}
	return result, api.OK
}
