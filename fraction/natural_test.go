package fraction

import (
	"math/big"
	"math/rand"
	"strings"
	"testing"
)

// digitsOf returns a random number with up to so many digits, in which runs of 0 and of 9 are frequent: carries and estimates fail there first.
func digitsOf(r *rand.Rand, most int) string {
	var b strings.Builder
	for b.Len() < most {
		run := strings.Repeat(string("0099123456789"[r.Intn(13)]), 1+r.Intn(6))
		b.WriteString(run)
	}
	text := strings.TrimLeft(b.String()[:r.Intn(most+1)], "0")
	if text == "" {
		return "0"
	}
	return text
}

func testNatural[L limb](t *testing.T) {
	r := rand.New(rand.NewSource(1))
	for range 4000 {
		x, y := digitsOf(r, 130), digitsOf(r, 130)
		a, b := read[L](x), read[L](y)
		m, _ := new(big.Int).SetString(x, 10)
		n, _ := new(big.Int).SetString(y, 10)
		if a.text() != x || read[L]("000"+x).text() != x {
			t.Fatalf("text of %s: %s", x, a.text())
		}
		if a.order(b) != m.Cmp(n) {
			t.Fatalf("order of %s and %s: %d", x, y, a.order(b))
		}
		same := func(what string, got natural[L], expected *big.Int) {
			t.Helper()
			if got.text() != expected.String() || len(got) > 0 && got[len(got)-1] == 0 {
				t.Fatalf("%s of %s and %s: %v instead of %s", what, x, y, got, expected)
			}
		}
		same("sum", a.plus(b), new(big.Int).Add(m, n))
		same("product", a.times(b), new(big.Int).Mul(m, n))
		same("divisor", a.common(b), new(big.Int).GCD(nil, nil, m, n))
		if m.Cmp(n) >= 0 {
			same("difference", a.minus(b), new(big.Int).Sub(m, n))
		}
		if n.Sign() > 0 {
			quotient, rest := a.over(b)
			q, s := new(big.Int).QuoRem(m, n, new(big.Int))
			same("quotient", quotient, q)
			same("rest", rest, s)
		}
		if a.text() != x || b.text() != y {
			t.Fatalf("%s and %s became %s and %s", x, y, a.text(), b.text())
		}
	}
}

func TestNaturalsOfAnyLimbs(t *testing.T) {
	t.Run("uint8", testNatural[uint8])
	t.Run("uint16", testNatural[uint16])
	t.Run("uint32", testNatural[uint32])
	if width[uint8]() != 2 || width[uint16]() != 4 || width[uint32]() != 9 {
		t.Errorf("widths %d, %d, %d", width[uint8](), width[uint16](), width[uint32]())
	}
}
