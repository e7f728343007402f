// Package fraction implements layer 1: exact fractions of limited size.
package fraction

import (
	"strconv"

	"pneumatic/api"
)

// The operations with two numbers.
const (
	plus = iota
	minus
	times
	over
	operations
)

// table returns the function of each operation.
func table() [operations]func(a, b ratio) ratio {
	return [operations]func(a, b ratio) ratio{plus: add, minus: subtract, times: multiply, over: divide}
}

// Check returns OK for fractions.
func Check(a api.Frac) api.Errno {
	_, e := parse(a)
	return e
}

// Make returns the quotient of the numbers of two integer texts.
func Make(num, den string) (api.Frac, api.Errno) {
	for _, text := range [2]string{num, den} {
		if !isInteger(text) {
			return "", api.ErrForm
		}
		if isLong(text) {
			return "", api.ErrLarge
		}
	}
	if den == "0" {
		return "", api.ErrZero
	}
	return divide(integer(num), integer(den)).frac()
}

// Of returns the quotient of two ints.
func Of(num, den int) (api.Frac, api.Errno) {
	return Make(strconv.Itoa(num), strconv.Itoa(den))
}

// Whole returns an int as a fraction.
func Whole(n int) api.Frac {
	return api.Frac(strconv.Itoa(n))
}

// Parts returns the numerator and the denominator of a fraction.
func Parts(a api.Frac) (string, string, api.Errno) {
	if e := Check(a); e != api.OK {
		return "", "", e
	}
	num, den, _ := split(a)
	return num, den, api.OK
}

// Small returns the int that is equal to a fraction, or ErrRange if there is none.
func Small(a api.Frac) (int, api.Errno) {
	if e := Check(a); e != api.OK {
		return 0, e
	}
	n, err := strconv.Atoi(string(a))
	if err != nil {
		return 0, api.ErrRange
	}
	return n, api.OK
}

// Sign returns -1, 0 or 1 if a fraction is negative, 0 or positive.
func Sign(a api.Frac) (int, api.Errno) {
	x, e := parse(a)
	if e != api.OK {
		return 0, e
	}
	return x.sign(), api.OK
}

// Compare returns -1, 0 or 1 if a is less than b, equal or greater.
func Compare(a, b api.Frac) (int, api.Errno) {
	x, y, e := parseBoth(a, b)
	if e != api.OK {
		return 0, e
	}
	return subtract(x, y).sign(), api.OK
}

// Add returns the sum of two fractions.
func Add(a, b api.Frac) (api.Frac, api.Errno) {
	return compute(plus, a, b)
}

// Sub returns the difference of two fractions.
func Sub(a, b api.Frac) (api.Frac, api.Errno) {
	return compute(minus, a, b)
}

// Mul returns the product of two fractions.
func Mul(a, b api.Frac) (api.Frac, api.Errno) {
	return compute(times, a, b)
}

// Div returns the quotient of two fractions, or ErrZero if the second one is 0.
func Div(a, b api.Frac) (api.Frac, api.Errno) {
	return compute(over, a, b)
}

// Neg returns the opposite of a fraction.
func Neg(a api.Frac) (api.Frac, api.Errno) {
	x, e := parse(a)
	if e != api.OK {
		return "", e
	}
	return x.opposite().frac()
}

// Floor returns the greatest integer that is not greater than a fraction.
func Floor(a api.Frac) (api.Frac, api.Errno) {
	x, e := parse(a)
	if e != api.OK {
		return "", e
	}
	return x.floor().frac()
}

// Ceil returns the least integer that is not less than a fraction.
func Ceil(a api.Frac) (api.Frac, api.Errno) {
	x, e := parse(a)
	if e != api.OK {
		return "", e
	}
	return x.opposite().floor().opposite().frac()
}

// Sum returns the sum of a list, which is added to 0 from left to right.
func Sum(l []api.Frac) (api.Frac, api.Errno) {
	if len(l) > api.MaxEvents {
		return "", api.ErrMany
	}
	// An element that is no fraction comes before a sum that is too large, wherever it is in the list.
	for _, a := range l {
		if e := Check(a); e != api.OK {
			return "", e
		}
	}
	sum := Whole(0)
	for _, a := range l {
		var e api.Errno
		if sum, e = Add(sum, a); e != api.OK {
			return "", e
		}
	}
	return sum, api.OK
}

// compute returns the result of an operation with two fractions.
func compute(operation int, a, b api.Frac) (api.Frac, api.Errno) {
	x, y, e := parseBoth(a, b)
	if e != api.OK {
		return "", e
	}
	if operation == over && y.sign() == 0 {
		return "", api.ErrZero
	}
	return table()[operation](x, y).frac()
}

// parseBoth returns the ratios of two fractions, or the first error of both.
func parseBoth(a, b api.Frac) (ratio, ratio, api.Errno) {
	x, e := parse(a)
	if e != api.OK {
		return ratio{}, ratio{}, e
	}
	y, e := parse(b)
	if e != api.OK {
		return ratio{}, ratio{}, e
	}
	return x, y, api.OK
}
