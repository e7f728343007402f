package fraction

import (
	"strings"

	"pneumatic/api"
)

// number is the kind of naturals of which fractions are made.
type number = natural[uint32]

// ratio is a quotient on the way to a fraction: its parts have any size and need not be in lowest terms, but its denominator is not 0. A ratio of 0 may be negative.
type ratio struct {
	negative bool
	num, den number
}

// isInteger reports whether a text is an integer text.
func isInteger(text string) bool {
	digits := strings.TrimPrefix(text, "-")
	if digits == "" || digits[0] == '0' && text != "0" {
		return false
	}
	for i := range len(digits) {
		if digits[i] < '0' || digits[i] > '9' {
			return false
		}
	}
	return true
}

// isLong reports whether an integer text has more digits than are permitted.
func isLong(text string) bool {
	return len(strings.TrimPrefix(text, "-")) > api.MaxDigits
}

// split returns the texts of the numerator and of the denominator, and whether the denominator is written.
func split(a api.Frac) (num, den string, written bool) {
	num, den, written = strings.Cut(string(a), "/")
	if !written {
		den = "1"
	}
	return num, den, written
}

// integer returns the ratio of an integer text.
func integer(text string) ratio {
	digits, negative := strings.CutPrefix(text, "-")
	return ratio{negative, read[uint32](digits), read[uint32]("1")}
}

// parse returns the ratio of a fraction, or the error of Check.
func parse(a api.Frac) (ratio, api.Errno) {
	num, den, written := split(a)
	if !isInteger(num) || !isInteger(den) {
		return ratio{}, api.ErrForm
	}
	if isLong(num) || isLong(den) {
		return ratio{}, api.ErrLarge
	}
	above, below, one := integer(num), integer(den), read[uint32]("1")
	if below.negative || written && below.num.order(one) <= 0 || above.num.common(below.num).order(one) != 0 {
		return ratio{}, api.ErrForm
	}
	return ratio{above.negative, above.num, below.num}, api.OK
}

// frac returns the fraction that is equal to a ratio.
func (r ratio) frac() (api.Frac, api.Errno) {
	divisor := r.num.common(r.den)
	above, _ := r.num.over(divisor)
	below, _ := r.den.over(divisor)
	num, den := above.text(), below.text()
	if isLong(num) || isLong(den) {
		return "", api.ErrLarge
	}
	if r.sign() < 0 {
		num = "-" + num
	}
	if den == "1" {
		return api.Frac(num), api.OK
	}
	return api.Frac(num + "/" + den), api.OK
}

// sign returns -1, 0 or 1 if a ratio is negative, 0 or positive.
func (r ratio) sign() int {
	switch {
	case len(r.num) == 0:
		return 0
	case r.negative:
		return -1
	}
	return 1
}

// opposite returns the ratio with the other sign.
func (r ratio) opposite() ratio {
	return ratio{!r.negative, r.num, r.den}
}

// floor returns the greatest integer that is not greater.
func (r ratio) floor() ratio {
	one := read[uint32]("1")
	quotient, rest := r.num.over(r.den)
	if r.negative && len(rest) > 0 {
		quotient = quotient.plus(one)
	}
	return ratio{r.negative, quotient, one}
}

// add returns the sum of two ratios.
func add(a, b ratio) ratio {
	x, y, den := a.num.times(b.den), b.num.times(a.den), a.den.times(b.den)
	switch {
	case a.negative == b.negative:
		return ratio{a.negative, x.plus(y), den}
	case x.order(y) < 0:
		return ratio{b.negative, y.minus(x), den}
	}
	return ratio{a.negative, x.minus(y), den}
}

// subtract returns the difference of two ratios.
func subtract(a, b ratio) ratio {
	return add(a, b.opposite())
}

// multiply returns the product of two ratios.
func multiply(a, b ratio) ratio {
	return ratio{a.negative != b.negative, a.num.times(b.num), a.den.times(b.den)}
}

// divide returns the quotient of two ratios, of which the second one is not 0.
func divide(a, b ratio) ratio {
	return ratio{a.negative != b.negative, a.num.times(b.den), a.den.times(b.num)}
}
