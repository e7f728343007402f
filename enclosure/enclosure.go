// Package enclosure implements layer 2: enclosures of numbers that are not known exactly.
package enclosure

import (
	"pneumatic/api"
	"pneumatic/fraction"
)

// end computes an end of an enclosure.
type end func() (api.Frac, api.Errno)

// Check returns OK for enclosures.
func Check(a api.Enclosure) api.Errno {
	if e := fraction.Check(a.Low); e != api.OK {
		return e
	}
	if e := fraction.Check(a.High); e != api.OK {
		return e
	}
	if isLess(a.High, a.Low) {
		return api.ErrOrder
	}
	return api.OK
}

// Of returns the enclosure of two numbers.
func Of(low, high api.Frac) (api.Enclosure, api.Errno) {
	a := api.Enclosure{Low: low, High: high}
	if e := Check(a); e != api.OK {
		return api.Enclosure{}, e
	}
	return a, api.OK
}

// Point returns the enclosure of a number alone.
func Point(a api.Frac) (api.Enclosure, api.Errno) {
	return Of(a, a)
}

// Pi returns the enclosure of pi.
func Pi() api.Enclosure {
	return api.Enclosure{Low: "223/71", High: "22/7"}
}

// Add returns the enclosure of the sums.
func Add(a, b api.Enclosure) (api.Enclosure, api.Errno) {
	if e := checkAll(a, b); e != api.OK {
		return api.Enclosure{}, e
	}
	return between(
		func() (api.Frac, api.Errno) { return fraction.Add(a.Low, b.Low) },
		func() (api.Frac, api.Errno) { return fraction.Add(a.High, b.High) })
}

// Sub returns the enclosure of the differences.
func Sub(a, b api.Enclosure) (api.Enclosure, api.Errno) {
	if e := checkAll(a, b); e != api.OK {
		return api.Enclosure{}, e
	}
	return between(
		func() (api.Frac, api.Errno) { return fraction.Sub(a.Low, b.High) },
		func() (api.Frac, api.Errno) { return fraction.Sub(a.High, b.Low) })
}

// Mul returns the enclosure of the products.
func Mul(a, b api.Enclosure) (api.Enclosure, api.Errno) {
	if e := checkAll(a, b); e != api.OK {
		return api.Enclosure{}, e
	}
	low, high := extremes(a, b)
	return between(low.value, high.value)
}

// Div returns the enclosure of the quotients, or ErrZero if 0 is in the second enclosure.
func Div(a, b api.Enclosure) (api.Enclosure, api.Errno) {
	if e := checkAll(a, b); e != api.OK {
		return api.Enclosure{}, e
	}
	if !isLess(b.High, "0") && !isLess("0", b.Low) {
		return api.Enclosure{}, api.ErrZero
	}
	inverse, e := between(
		func() (api.Frac, api.Errno) { return fraction.Div("1", b.High) },
		func() (api.Frac, api.Errno) { return fraction.Div("1", b.Low) })
	if e != api.OK {
		return api.Enclosure{}, e
	}
	return Mul(a, inverse)
}

// Square returns the enclosure of the squares.
func Square(a api.Enclosure) (api.Enclosure, api.Errno) {
	if e := Check(a); e != api.OK {
		return api.Enclosure{}, e
	}
	near, far := greatest("0", a.Low, opposite(a.High)), greatest(opposite(a.Low), a.High)
	return between(
		func() (api.Frac, api.Errno) { return fraction.Mul(near, near) },
		func() (api.Frac, api.Errno) { return fraction.Mul(far, far) })
}

// Meet returns the enclosure of the numbers that are in both, and true; or false if there are none.
func Meet(a, b api.Enclosure) (api.Enclosure, bool, api.Errno) {
	if e := checkAll(a, b); e != api.OK {
		return api.Enclosure{}, false, e
	}
	low, high := greatest(a.Low, b.Low), least(a.High, b.High)
	if isLess(high, low) {
		return api.Enclosure{}, false, api.OK
	}
	return api.Enclosure{Low: low, High: high}, true, api.OK
}

// Hull returns the least enclosure that has both.
func Hull(a, b api.Enclosure) (api.Enclosure, api.Errno) {
	if e := checkAll(a, b); e != api.OK {
		return api.Enclosure{}, e
	}
	return api.Enclosure{Low: least(a.Low, b.Low), High: greatest(a.High, b.High)}, api.OK
}

// Contains reports whether a number is in an enclosure.
func Contains(a api.Enclosure, x api.Frac) (bool, api.Errno) {
	if e := Check(a); e != api.OK {
		return false, e
	}
	if e := fraction.Check(x); e != api.OK {
		return false, e
	}
	return !isLess(x, a.Low) && !isLess(a.High, x), api.OK
}

// Within reports whether all numbers of a are in b.
func Within(a, b api.Enclosure) (bool, api.Errno) {
	if e := checkAll(a, b); e != api.OK {
		return false, e
	}
	return !isLess(a.Low, b.Low) && !isLess(b.High, a.High), api.OK
}

// Compare returns -1 if a is certainly less than b, 1 if it is certainly greater, and otherwise 0.
func Compare(a, b api.Enclosure) (int, api.Errno) {
	if e := checkAll(a, b); e != api.OK {
		return 0, e
	}
	switch {
	case isLess(a.High, b.Low):
		return -1, api.OK
	case isLess(b.High, a.Low):
		return 1, api.OK
	}
	return 0, api.OK
}

// Width returns the difference of the ends.
func Width(a api.Enclosure) (api.Frac, api.Errno) {
	if e := Check(a); e != api.OK {
		return "", e
	}
	return fraction.Sub(a.High, a.Low)
}

// checkAll returns the first error of Check.
func checkAll(l ...api.Enclosure) api.Errno {
	for _, a := range l {
		if e := Check(a); e != api.OK {
			return e
		}
	}
	return api.OK
}

// between returns the enclosure with both ends, or the first error in computing them.
func between(low, high end) (api.Enclosure, api.Errno) {
	x, e := low()
	if e != api.OK {
		return api.Enclosure{}, e
	}
	y, e := high()
	if e != api.OK {
		return api.Enclosure{}, e
	}
	return api.Enclosure{Low: x, High: y}, api.OK
}

// isLess reports whether a fraction is less than another one.
func isLess(a, b api.Frac) bool {
	order, e := fraction.Compare(a, b)
	return e == api.OK && order < 0
}

// least returns the least fraction.
func least(first api.Frac, others ...api.Frac) api.Frac {
	for _, a := range others {
		if isLess(a, first) {
			first = a
		}
	}
	return first
}

// greatest returns the greatest fraction.
func greatest(first api.Frac, others ...api.Frac) api.Frac {
	for _, a := range others {
		if isLess(first, a) {
			first = a
		}
	}
	return first
}

// opposite returns a fraction with the other sign, which is a fraction too.
func opposite(a api.Frac) api.Frac {
	b, _ := fraction.Neg(a)
	return b
}
