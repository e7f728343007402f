package enclosure

import (
	"cmp"
	"strings"

	"pneumatic/api"
	"pneumatic/fraction"
)

// product is a product of two fractions, with the digits of the magnitudes of its parts. It may be too large for a fraction, and still has an order: only an end that is too large is an error.
type product struct {
	factors  [2]api.Frac
	sign     int
	num, den digits
}

// digits are the decimal digits of a natural number, the last one first, without zeros at the end of the slice.
type digits []int

// extremes returns the least and the greatest product of ends of two enclosures.
func extremes(a, b api.Enclosure) (low, high product) {
	all := [4]product{multiply(a.Low, b.Low), multiply(a.Low, b.High), multiply(a.High, b.Low), multiply(a.High, b.High)}
	low, high = all[0], all[0]
	for _, p := range all {
		if p.order(low) < 0 {
			low = p
		}
		if p.order(high) > 0 {
			high = p
		}
	}
	return low, high
}

// multiply returns the product of two fractions.
func multiply(a, b api.Frac) product {
	p := product{[2]api.Frac{a, b}, 1, digits{1}, digits{1}}
	for _, x := range p.factors {
		num, den, _ := fraction.Parts(x)
		sign, _ := fraction.Sign(x)
		p.sign *= sign
		p.num = p.num.times(read(strings.TrimPrefix(num, "-")))
		p.den = p.den.times(read(den))
	}
	return p
}

// value returns the product as a fraction.
func (p product) value() (api.Frac, api.Errno) {
	return fraction.Mul(p.factors[0], p.factors[1])
}

// order returns -1, 0 or 1 if p is less than q, equal or greater.
func (p product) order(q product) int {
	if p.sign != q.sign {
		return cmp.Compare(p.sign, q.sign)
	}
	return p.sign * p.num.times(q.den).order(q.num.times(p.den))
}

// read returns the digits of an integer text without a sign.
func read(text string) digits {
	d := make(digits, len(text))
	for i := range d {
		d[i] = int(text[len(text)-1-i] - '0')
	}
	return d.trimmed()
}

// trimmed returns digits without zeros at the end of the slice.
func (d digits) trimmed() digits {
	n := len(d)
	for n > 0 && d[n-1] == 0 {
		n--
	}
	return d[:n]
}

// times returns the product of two numbers.
func (d digits) times(f digits) digits {
	p := make(digits, len(d)+len(f))
	for i, x := range d {
		for j, y := range f {
			p[i+j] += x * y
		}
	}
	carry := 0
	for i, x := range p {
		p[i], carry = (x+carry)%10, (x+carry)/10
	}
	return p.trimmed()
}

// order returns -1, 0 or 1 if a number is less than another one, equal or greater.
func (d digits) order(f digits) int {
	if len(d) != len(f) {
		return cmp.Compare(len(d), len(f))
	}
	for i := len(d) - 1; i >= 0; i-- {
		if d[i] != f[i] {
			return cmp.Compare(d[i], f[i])
		}
	}
	return 0
}
