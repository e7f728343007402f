package enclosure

import (
	"math/big"
	"math/rand"
	"strconv"
	"strings"
	"testing"

	"pneumatic/api"
	"pneumatic/fraction"
)

var (
	nines = strings.Repeat("9", api.MaxDigits)
	great = api.Frac(nines)
	tiny  = api.Frac("1/" + nines)
	none  api.Enclosure
)

func of(low, high api.Frac) api.Enclosure { return api.Enclosure{Low: low, High: high} }

func rat(a api.Frac) *big.Rat {
	r, ok := new(big.Rat).SetString(string(a))
	if !ok {
		panic(a)
	}
	return r
}

func same[T comparable](t *testing.T, what string, got, expected T) {
	t.Helper()
	if got != expected {
		t.Errorf("%s: %v instead of %v", what, got, expected)
	}
}

// isFraction reports whether a number is not too large.
func isFraction(r *big.Rat) bool {
	return len(new(big.Int).Abs(r.Num()).String()) <= api.MaxDigits && len(r.Denom().String()) <= api.MaxDigits
}

// enclosed returns the enclosure of numbers, or ErrLarge.
func enclosed(l ...*big.Rat) (api.Enclosure, api.Errno) {
	low, high := l[0], l[0]
	for _, x := range l {
		if x.Cmp(low) < 0 {
			low = x
		}
		if x.Cmp(high) > 0 {
			high = x
		}
	}
	if !isFraction(low) || !isFraction(high) {
		return none, api.ErrLarge
	}
	return of(api.Frac(low.RatString()), api.Frac(high.RatString())), api.OK
}

// small returns a random number with few digits.
func small(r *rand.Rand) api.Frac {
	a, _ := fraction.Of(r.Intn(41)-20, 1+r.Intn(6))
	return a
}

// large returns a random number that is near the limits, or a small one.
func large(r *rand.Rand) api.Frac {
	digits := strconv.Itoa(1+r.Intn(9)) + strings.Repeat(strconv.Itoa(r.Intn(10)), r.Intn(api.MaxDigits-8)) + strconv.Itoa(r.Intn(10000000))
	signed := api.Frac(strings.Repeat("-", r.Intn(2)) + digits)
	switch r.Intn(4) {
	case 0:
		return signed
	case 1:
		a, _ := fraction.Div("1", signed)
		return a
	case 2:
		a, _ := fraction.Div(signed, great)
		return a
	}
	return small(r)
}

// random returns an enclosure of two numbers.
func random(r *rand.Rand, number func(*rand.Rand) api.Frac) api.Enclosure {
	a, _ := enclosed(rat(number(r)), rat(number(r)))
	return a
}

// wrong are enclosures with errors.
var wrong = []struct {
	a api.Enclosure
	e api.Errno
}{
	{none, api.ErrForm}, {of("2", "1"), api.ErrOrder}, {of("1/2", "1/3"), api.ErrOrder}, {of("-1", "-2"), api.ErrOrder}, {of("x", "1"), api.ErrForm}, {of("1", ""), api.ErrForm}, {of("1", "2/2"), api.ErrForm}, {of("2", "-0"), api.ErrForm},
	{of(great+"9", "x"), api.ErrLarge}, {of("x", great+"9"), api.ErrForm}, {of("2", great+"9"), api.ErrLarge}, {of("-0", "-1"), api.ErrForm},
}

// P2.1

func TestCheckOfAndPoint(t *testing.T) {
	for _, x := range wrong {
		a, e := Of(x.a.Low, x.a.High)
		same(t, "Check", Check(x.a), x.e)
		same(t, "Of", a, none)
		same(t, "error of Of", e, x.e)
	}
	for _, x := range []api.Enclosure{of("1", "1"), of("-2", "3"), of("1/3", "1/2"), of("-1/2", "-1/3"), of("0", "0"), of("-"+great, great), of(tiny, great)} {
		a, e := Of(x.Low, x.High)
		same(t, "Check", Check(x), api.OK)
		same(t, "Of", a, x)
		same(t, "error of Of", e, api.OK)
	}
	for _, x := range []struct {
		a api.Frac
		e api.Errno
	}{{"-6/7", api.OK}, {"0", api.OK}, {great, api.OK}, {"6/-7", api.ErrForm}, {"", api.ErrForm}, {great + "9", api.ErrLarge}} {
		a, e := Point(x.a)
		expected := none
		if x.e == api.OK {
			expected = of(x.a, x.a)
		}
		same(t, "Point", a, expected)
		same(t, "error of Point", e, x.e)
	}
}

func TestPiIsEnclosed(t *testing.T) {
	same(t, "Pi", Pi(), of("223/71", "22/7"))
	same(t, "Check", Check(Pi()), api.OK)
	for x, expected := range map[api.Frac]bool{"355/113": true, "223/71": true, "22/7": true, "157/50": false, "63/20": false} {
		in, e := Contains(Pi(), x)
		same(t, "Contains "+string(x), in, expected)
		same(t, "error", e, api.OK)
	}
}

func TestMeetHullWithinAndCompare(t *testing.T) {
	for _, x := range []struct {
		a, b, meet, hull api.Enclosure
		ok, in           bool
		order            int
	}{
		{of("1/2", "2/3"), of("3/4", "1"), none, of("1/2", "1"), false, false, -1},
		{of("1/2", "2/3"), of("2/3", "1"), of("2/3", "2/3"), of("1/2", "1"), true, false, 0},
		{of("2/3", "1"), of("1/2", "2/3"), of("2/3", "2/3"), of("1/2", "1"), true, false, 0},
		{of("3/4", "1"), of("1/2", "2/3"), none, of("1/2", "1"), false, false, 1},
		{of("4", "5"), of("1", "9"), of("4", "5"), of("1", "9"), true, true, 0},
		{of("1", "9"), of("4", "5"), of("4", "5"), of("1", "9"), true, false, 0},
		{of("1", "9"), of("1", "9"), of("1", "9"), of("1", "9"), true, true, 0},
		{of("1", "5"), of("1", "9"), of("1", "5"), of("1", "9"), true, true, 0},
		{of("1", "5"), of("2", "5"), of("2", "5"), of("1", "5"), true, false, 0},
		{of("7", "7"), of("7", "7"), of("7", "7"), of("7", "7"), true, true, 0},
		{of("10", "11"), of("9", "9"), none, of("9", "11"), false, false, 1},
	} {
		meet, ok, e := Meet(x.a, x.b)
		hull, f := Hull(x.a, x.b)
		in, g := Within(x.a, x.b)
		order, h := Compare(x.a, x.b)
		same(t, "Meet", meet, x.meet)
		same(t, "Meet", ok, x.ok)
		same(t, "Hull", hull, x.hull)
		same(t, "Within", in, x.in)
		same(t, "Compare", order, x.order)
		same(t, "errors", [4]api.Errno{e, f, g, h}, [4]api.Errno{})
	}
}

func TestContainsBothEnds(t *testing.T) {
	for x, expected := range map[api.Frac]bool{"-2": true, "3": true, "0": true, "5/2": true, "-21/10": false, "10/3": false, great: false} {
		in, e := Contains(of("-2", "3"), x)
		same(t, "Contains "+string(x), in, expected)
		same(t, "error", e, api.OK)
	}
	for _, x := range []struct {
		a api.Enclosure
		x api.Frac
		e api.Errno
	}{{of("-2", "3"), "4/2", api.ErrForm}, {of("-2", "3"), great + "9", api.ErrLarge}, {of("3", "2"), "4/2", api.ErrOrder}, {none, great + "9", api.ErrForm}} {
		in, e := Contains(x.a, x.x)
		same(t, "Contains", in, false)
		same(t, "error", e, x.e)
	}
}

func TestFirstErrorOfEnclosures(t *testing.T) {
	right := of("-1", "1")
	all := append(wrong[:len(wrong):len(wrong)], struct {
		a api.Enclosure
		e api.Errno
	}{right, api.OK})
	for _, x := range all {
		for _, y := range all {
			expected := x.e
			if expected == api.OK {
				expected = y.e
			}
			if expected == api.OK {
				continue
			}
			for name, call := range map[string]func(a, b api.Enclosure) (api.Enclosure, api.Errno){"Add": Add, "Sub": Sub, "Mul": Mul, "Div": Div, "Hull": Hull} {
				a, e := call(x.a, y.a)
				same(t, name, a, none)
				same(t, "error of "+name, e, expected)
			}
			meet, ok, e := Meet(x.a, y.a)
			in, f := Within(x.a, y.a)
			order, g := Compare(x.a, y.a)
			same(t, "Meet", meet, none)
			same(t, "Meet, Within", ok || in, false)
			same(t, "Compare", order, 0)
			same(t, "errors", [3]api.Errno{e, f, g}, [3]api.Errno{expected, expected, expected})
		}
		if x.e != api.OK {
			square, e := Square(x.a)
			width, f := Width(x.a)
			same(t, "Square", square, none)
			same(t, "Width", width, "")
			same(t, "errors", [2]api.Errno{e, f}, [2]api.Errno{x.e, x.e})
		}
	}
}

// P2.2

// testOperations compares the results with those of the operations on all four ends.
func testOperations(t *testing.T, a, b api.Enclosure) {
	t.Helper()
	x, y := [2]*big.Rat{rat(a.Low), rat(a.High)}, [2]*big.Rat{rat(b.Low), rat(b.High)}
	what := " of " + string(a.Low+" .. "+a.High) + " and " + string(b.Low+" .. "+b.High)
	expect := func(name string, call func(a, b api.Enclosure) (api.Enclosure, api.Errno), on func(z, x, y *big.Rat) *big.Rat) {
		t.Helper()
		var l []*big.Rat
		for _, i := range x {
			for _, k := range y {
				l = append(l, on(new(big.Rat), i, k))
			}
		}
		expected, e := enclosed(l...)
		c, f := call(a, b)
		same(t, name+what, c, expected)
		same(t, "error of "+name+what, f, e)
	}
	expect("Add", Add, (*big.Rat).Add)
	expect("Sub", Sub, (*big.Rat).Sub)
	expect("Mul", Mul, (*big.Rat).Mul)
	if y[0].Sign() > 0 || y[1].Sign() < 0 {
		expect("Div", Div, (*big.Rat).Quo)
	} else {
		c, e := Div(a, b)
		same(t, "Div"+what, c, none)
		same(t, "error of Div"+what, e, api.ErrZero)
	}
	squares := []*big.Rat{new(big.Rat).Mul(x[0], x[0]), new(big.Rat).Mul(x[1], x[1])}
	if x[0].Sign() <= 0 && x[1].Sign() >= 0 {
		squares = append(squares, new(big.Rat))
	}
	expected, e := enclosed(squares...)
	c, f := Square(a)
	same(t, "Square"+what, c, expected)
	same(t, "error of Square"+what, f, e)
	expected, e = enclosed(new(big.Rat).Sub(x[1], x[0]))
	width, f := Width(a)
	same(t, "Width"+what, width, expected.Low)
	same(t, "error of Width"+what, f, e)
}

func TestOperationsEncloseTheirResults(t *testing.T) {
	r := rand.New(rand.NewSource(1))
	for range 1500 {
		testOperations(t, random(r, small), random(r, small))
	}
	for range 1500 {
		testOperations(t, random(r, large), random(r, large))
	}
}

func TestOperationsOfTheDocument(t *testing.T) {
	a, b := of("-2", "3"), of("5", "7")
	product, _ := Mul(a, b)
	quotient, _ := Div(a, b)
	square, _ := Square(a)
	same(t, "Mul", product, of("-14", "21"))
	same(t, "Div", quotient, of("-2/5", "3/5"))
	same(t, "Square", square, of("0", "9"))
}

func TestDivisorsHaveNoZero(t *testing.T) {
	for _, b := range []api.Enclosure{of("0", "0"), of("0", "1"), of("-1", "0"), of("-1", "1")} {
		c, e := Div(of(great, great), b)
		same(t, "Div", c, none)
		same(t, "error", e, api.ErrZero)
	}
}

// Only the ends of a result must not be too large: among the products of ends there may be some that are.
func TestOnlyEndsAreTooLarge(t *testing.T) {
	p, q := api.Frac("1"+strings.Repeat("0", api.MaxDigits-2)+"1"), api.Frac("1"+strings.Repeat("0", api.MaxDigits-2)+"3")
	minus, divided := "-"+great, api.Frac("/")
	for _, x := range []struct {
		a, b, c api.Enclosure
		e       api.Errno
	}{
		// The product of both low ends is less than that of the high ones.
		{of("-1"+divided+p, "5"), of("-1"+divided+q, "7"), of("-7"+divided+p, "35"), api.OK},
		{of("-5", "1"+divided+p), of("-7", "1"+divided+q), of("-7"+divided+p, "35"), api.OK},
		// The least one of both products with different signs is a fraction, and the other one is not.
		{of("-1"+divided+p, "3"), of("-2", "1"+divided+q), of("-6", ""), api.OK},
		{of("-1"+divided+p, "3"), of("-2", "5"), of("-6", "15"), api.OK},
		{of("-1"+divided+p, "1"+divided+q), of("-1"+divided+q, "1"+divided+p), none, api.ErrLarge},
		{of("0", great), of("1", "2"), none, api.ErrLarge}, {of(minus, "0"), of("1", "2"), none, api.ErrLarge}, {of("0", great), of("0", "1"), of("0", great), api.OK},
	} {
		if x.c.High == "" && x.e == api.OK {
			x.c.High, _ = fraction.Div("3", q)
		}
		c, e := Mul(x.a, x.b)
		same(t, "Mul", c, x.c)
		same(t, "error", e, x.e)
		testOperations(t, x.a, x.b)
	}
}

// P2.3

// inside returns a number in an enclosure.
func inside(r *rand.Rand, a api.Enclosure) api.Frac {
	share := big.NewRat(int64(r.Intn(13)), 12)
	x := new(big.Rat).Sub(rat(a.High), rat(a.Low))
	return api.Frac(x.Add(x.Mul(x, share), rat(a.Low)).RatString())
}

// part returns an enclosure within another one.
func part(r *rand.Rand, a api.Enclosure) api.Enclosure {
	b, _ := enclosed(rat(inside(r, a)), rat(inside(r, a)))
	return b
}

var operations = map[string]struct {
	wide   func(a, b api.Enclosure) (api.Enclosure, api.Errno)
	narrow func(a, b api.Frac) (api.Frac, api.Errno)
}{"Add": {Add, fraction.Add}, "Sub": {Sub, fraction.Sub}, "Mul": {Mul, fraction.Mul}, "Div": {Div, fraction.Div}}

func TestResultsContainWhatIsComputedWithNumbers(t *testing.T) {
	r := rand.New(rand.NewSource(2))
	for range 1000 {
		a, b := random(r, small), random(r, small)
		x, y := inside(r, a), inside(r, b)
		for name, operation := range operations {
			c, e := operation.wide(a, b)
			if e != api.OK {
				same(t, "error of "+name, e, api.ErrZero)
				continue
			}
			z, _ := operation.narrow(x, y)
			in, _ := Contains(c, z)
			same(t, name, in, true)
			for _, end := range [2]api.Frac{c.Low, c.High} {
				found := false
				for _, x := range [2]api.Frac{a.Low, a.High} {
					for _, y := range [2]api.Frac{b.Low, b.High} {
						z, _ := operation.narrow(x, y)
						found = found || z == end
					}
				}
				same(t, "an end of "+name, found, true)
			}
			d, _ := operation.wide(part(r, a), part(r, b))
			within, e := Within(d, c)
			same(t, "narrower "+name, within, true)
			same(t, "error", e, api.OK)
		}
	}
}

func TestSquaresLieInProducts(t *testing.T) {
	r := rand.New(rand.NewSource(3))
	for range 500 {
		a := random(r, small)
		x := inside(r, a)
		square, _ := Square(a)
		product, _ := Mul(a, a)
		within, _ := Within(square, product)
		narrower, _ := Square(part(r, a))
		narrow, _ := Within(narrower, square)
		y, _ := fraction.Mul(x, x)
		in, _ := Contains(square, y)
		same(t, "Square", [3]bool{within, narrow, in}, [3]bool{true, true, true})
	}
}

func TestWhatIsCertainRemainsSo(t *testing.T) {
	r := rand.New(rand.NewSource(4))
	for range 1000 {
		a, b := random(r, small), random(r, small)
		order, _ := Compare(a, b)
		narrower, _ := Compare(part(r, a), part(r, b))
		meet, ok, _ := Meet(a, b)
		same(t, "Meet", ok, order == 0)
		if order != 0 {
			same(t, "Compare", narrower, order)
			continue
		}
		first, _ := Within(meet, a)
		second, _ := Within(meet, b)
		same(t, "Meet", first && second, true)
	}
}

// P1

func TestEnclosureFunctionsTakeAnyTexts(t *testing.T) {
	r := rand.New(rand.NewSource(5))
	text := func() api.Frac {
		b := make([]byte, r.Intn(5))
		for i := range b {
			b[i] = "0123456789-/\xff"[r.Intn(13)]
		}
		return api.Frac(b)
	}
	for range 3000 {
		a, b := of(text(), text()), of(text(), text())
		if _, e := Of(a.Low, a.High); e != Check(a) {
			t.Errorf("Of %v: %d", a, e)
		}
		Point(a.Low)
		Add(a, b)
		Sub(a, b)
		Mul(a, b)
		Div(a, b)
		Square(a)
		Meet(a, b)
		Hull(a, b)
		Contains(a, b.Low)
		Within(a, b)
		Compare(a, b)
		Width(a)
	}
}
