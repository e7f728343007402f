package fraction

import (
	"cmp"
	"strings"
)

// limb is a type of which a number holds several decimal digits. Types of 64 bits are left out so that a product of two limbs fits in a uint64.
type limb interface{ uint8 | uint16 | uint32 }

// natural is a natural number of any size: limbs from the lowest to the highest one, which is not 0. The number 0 has no limbs.
type natural[L limb] []L

// base returns the greatest power of ten that a limb holds; limbs are less, so that they have whole digits.
func base[L limb]() uint64 {
	b := uint64(10)
	for b*10 <= uint64(^L(0)) {
		b *= 10
	}
	return b
}

// width returns the number of digits of a limb.
func width[L limb]() int {
	w := 0
	for b := base[L](); b > 1; b /= 10 {
		w++
	}
	return w
}

// read returns the number with decimal digits, which may begin with zeros.
func read[L limb](digits string) natural[L] {
	w := width[L]()
	var a natural[L]
	for end := len(digits); end > 0; end -= w {
		var x L
		for i := max(0, end-w); i < end; i++ {
			x = x*10 + L(digits[i]-'0')
		}
		a = append(a, x)
	}
	return a.trimmed()
}

// text returns the decimal digits of a number.
func (a natural[L]) text() string {
	if len(a) == 0 {
		return "0"
	}
	w := width[L]()
	digits := make([]byte, w*len(a))
	for i, x := range a {
		last := len(digits) - 1 - w*i
		for k := range w {
			digits[last-k] = '0' + byte(x%10)
			x /= 10
		}
	}
	return strings.TrimLeft(string(digits), "0")
}

// trimmed returns a number without zeros at its top.
func (a natural[L]) trimmed() natural[L] {
	n := len(a)
	for n > 0 && a[n-1] == 0 {
		n--
	}
	return a[:n]
}

// at returns the limb with an index, which is 0 above the top.
func (a natural[L]) at(i int) uint64 {
	if i < len(a) {
		return uint64(a[i])
	}
	return 0
}

// order returns -1, 0 or 1 if a is less than b, equal or greater.
func (a natural[L]) order(b natural[L]) int {
	if len(a) != len(b) {
		return cmp.Compare(len(a), len(b))
	}
	for i := len(a) - 1; i >= 0; i-- {
		if a[i] != b[i] {
			return cmp.Compare(a[i], b[i])
		}
	}
	return 0
}

// plus returns the sum of two numbers.
func (a natural[L]) plus(b natural[L]) natural[L] {
	sum := make(natural[L], max(len(a), len(b))+1)
	limit, carry := base[L](), uint64(0)
	for i := range sum {
		carry += a.at(i) + b.at(i)
		sum[i] = L(carry % limit)
		carry /= limit
	}
	return sum.trimmed()
}

// minus returns the difference of a number and another one that is not greater.
func (a natural[L]) minus(b natural[L]) natural[L] {
	difference := make(natural[L], len(a))
	limit, borrow := base[L](), uint64(0)
	for i, x := range a {
		have, take := uint64(x), b.at(i)+borrow
		borrow = 0
		if have < take {
			have += limit
			borrow = 1
		}
		difference[i] = L(have - take)
	}
	return difference.trimmed()
}

// times returns the product of two numbers.
func (a natural[L]) times(b natural[L]) natural[L] {
	product := make(natural[L], len(a)+len(b))
	limit := base[L]()
	for i, x := range a {
		carry := uint64(0)
		for j, y := range b {
			carry += uint64(product[i+j]) + uint64(x)*uint64(y)
			product[i+j] = L(carry % limit)
			carry /= limit
		}
		product[i+len(b)] = L(carry)
	}
	return product.trimmed()
}

// over returns the quotient and the rest of the division by a number that is not 0.
func (a natural[L]) over(b natural[L]) (quotient, rest natural[L]) {
	// Both are scaled so that the top limb of the divisor is at least half of the base: then an estimate is at most two too great.
	scale := natural[L]{L(base[L]() / (b.at(len(b)-1) + 1))}
	dividend, divisor := a.times(scale), b.times(scale)
	// What has fewer limbs than the divisor is less.
	places := max(0, len(dividend)-len(divisor)+1)
	quotient = make(natural[L], places)
	left := dividend[places:]
	for i := places - 1; i >= 0; i-- {
		left = append(natural[L]{dividend[i]}, left...).trimmed()
		x := left.estimate(divisor)
		product := divisor.times(natural[L]{x})
		for product.order(left) > 0 {
			product = product.minus(divisor)
			x--
		}
		quotient[i], left = x, left.minus(product)
	}
	quotient = quotient.trimmed()
	return quotient, a.minus(quotient.times(b))
}

// estimate returns a limb that is not less than the quotient of the division by a divisor, if this quotient is a limb.
func (a natural[L]) estimate(divisor natural[L]) L {
	n := len(divisor)
	top := a.at(n)*base[L]() + a.at(n-1)
	return L(min(top/divisor.at(n-1), base[L]()-1))
}

// common returns the greatest common divisor of two numbers, which is the other one if one is 0.
func (a natural[L]) common(b natural[L]) natural[L] {
	for len(b) > 0 {
		_, rest := a.over(b)
		a, b = b, rest
	}
	return a
}
