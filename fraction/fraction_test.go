package fraction

import (
	"math"
	"math/big"
	"math/rand"
	"regexp"
	"slices"
	"strconv"
	"strings"
	"testing"

	"pneumatic/api"
)

var (
	nines = strings.Repeat("9", api.MaxDigits)
	long  = strings.Repeat("9", api.MaxDigits+1)
	form  = regexp.MustCompile(`^(0|-?[1-9][0-9]*)$`)
)

// oddTexts are texts that are no fractions, or nearly none.
var oddTexts = []string{
	"", " ", "-", "+", "/", "-/", "/-", "1/", "/2", "-/2", "--1", "-0", "+1", "00", "07", "-07", "0/1", "0/2", "4/1", "12/8", "-6/9", "1/0", "0/0", "3/-4", "-3/-4", "3/04", "3/+4", "5/6/7", "5//6", "1/2/", " 1", "1 ", "1 /2", "1.5", "1e3", "0x1", "1_000", "1\x00", "\xff", "\xff/\xfe", "१", "1/२", "٣", "−1", "1/2\n", "x", "7/x", "x/7",
	long, "-" + long, "1/" + long, "-1/" + long, long + "/x", "x/" + long, long + "/0", long + "/1", "0/" + long, "1/-" + long, long + "/" + long, "0" + nines, nines + "/0" + nines, nines + "/" + nines, "/" + long, long + "/",
}

// fractions are fractions at the edges.
var fractions = []string{
	"0", "1", "-1", "2", "-2", "1/2", "-1/2", "2/3", "-2/3", "7/3", "-7/3", "3/20", "2/15", "-11/4", "9223372036854775807", "9223372036854775808", "-9223372036854775808", "-9223372036854775809", "999999999", "1000000000", "1/999999999", "1/1000000000", "1000000000/999999999",
	nines, "-" + nines, "1/" + nines, "-1/" + nines, nines + "/2", "-" + nines + "/2", "1" + strings.Repeat("0", api.MaxDigits-1) + "/" + nines, nines + "/1" + strings.Repeat("0", api.MaxDigits-1),
}

// rat returns the number of an integer text, or of two.
func rat(text string) *big.Rat {
	r, ok := new(big.Rat).SetString(text)
	if !ok {
		panic(text)
	}
	return r
}

// fracOf returns what a computation with a result returns.
func fracOf(r *big.Rat) (api.Frac, api.Errno) {
	if len(new(big.Int).Abs(r.Num()).String()) > api.MaxDigits || len(r.Denom().String()) > api.MaxDigits {
		return "", api.ErrLarge
	}
	return api.Frac(r.RatString()), api.OK
}

// checkOf returns what Check returns, straight from its definition.
func checkOf(text string) api.Errno {
	parts := strings.SplitN(text, "/", 2)
	for _, p := range parts {
		if !form.MatchString(p) {
			return api.ErrForm
		}
	}
	for _, p := range parts {
		if len(strings.Trim(p, "-")) > api.MaxDigits {
			return api.ErrLarge
		}
	}
	if len(parts) == 2 && (parts[1] == "0" || parts[1][0] == '-' || rat(text).RatString() != text) {
		return api.ErrForm
	}
	return api.OK
}

// randomFrac returns a fraction with parts of up to so many digits.
func randomFrac(r *rand.Rand, most int) api.Frac {
	den := digitsOf(r, most)
	if den == "0" {
		den = "1"
	}
	f := rat(digitsOf(r, most) + "/" + den)
	if r.Intn(2) == 0 {
		f.Neg(f)
	}
	return api.Frac(f.RatString())
}

// samples returns fractions of all sizes.
func samples(n int) []api.Frac {
	r := rand.New(rand.NewSource(2))
	var l []api.Frac
	for _, text := range fractions {
		l = append(l, api.Frac(text))
	}
	for len(l) < n {
		l = append(l, randomFrac(r, []int{1, 2, 5, 20, 31, api.MaxDigits}[r.Intn(6)]))
	}
	return l
}

func same[T comparable](t *testing.T, what string, got, expected T) {
	t.Helper()
	if got != expected {
		t.Errorf("%s: %v instead of %v", what, got, expected)
	}
}

// P1.1

func TestCheckAcceptsFractionsAlone(t *testing.T) {
	for _, text := range append(append(oddTexts, fractions...), "17", "-5/3", "10/7") {
		same(t, "Check of "+text, Check(api.Frac(text)), checkOf(text))
	}
	for _, a := range samples(300) {
		same(t, "Check of "+string(a), Check(a), api.OK)
	}
	for text, e := range map[string]api.Errno{"12/8": api.ErrForm, "07": api.ErrForm, "-0": api.ErrForm, "4/1": api.ErrForm, long + "/x": api.ErrForm, "x/" + long: api.ErrForm, long + "/0": api.ErrLarge, "0/" + long: api.ErrLarge, "1/-" + long: api.ErrLarge, "3/-4": api.ErrForm, "0/5": api.ErrForm, "-" + nines: api.OK} {
		same(t, "Check of "+text, Check(api.Frac(text)), e)
	}
}

func TestMakeReducesQuotients(t *testing.T) {
	texts := append([]string{"0", "1", "-1", "26", "-10", "45", "-9", "12", nines, "-" + nines, "9223372036854775808"}, oddTexts...)
	for _, num := range texts {
		for _, den := range texts {
			var a api.Frac
			e := api.OK
			for _, text := range []string{num, den} {
				if e == api.OK && !form.MatchString(text) {
					e = api.ErrForm
				} else if e == api.OK && len(strings.Trim(text, "-")) > api.MaxDigits {
					e = api.ErrLarge
				}
			}
			if e == api.OK && den == "0" {
				e = api.ErrZero
			} else if e == api.OK {
				a, e = fracOf(new(big.Rat).Quo(rat(num), rat(den)))
			}
			b, f := Make(num, den)
			same(t, "Make of "+num+" and "+den, b, a)
			same(t, "error of Make of "+num+" and "+den, f, e)
		}
	}
	a, e := Make("26", "-10")
	same(t, "26/-10", a, "-13/5")
	same(t, "26/-10", e, api.OK)
}

func TestOfAndWholeTakeInts(t *testing.T) {
	ints := []int{0, 1, -1, 2, 6, -21, 1000000000, math.MaxInt, math.MinInt, math.MinInt + 1, math.MaxInt32, math.MinInt / 2}
	for _, num := range ints {
		same(t, "Whole", Whole(num), api.Frac(strconv.Itoa(num)))
		for _, den := range ints {
			a, e := api.Frac(""), api.ErrZero
			if den != 0 {
				a, e = fracOf(new(big.Rat).SetFrac(big.NewInt(int64(num)), big.NewInt(int64(den))))
			}
			b, f := Of(num, den)
			same(t, "Of", b, a)
			same(t, "error of Of", f, e)
		}
	}
}

func TestPartsSmallAndSignRead(t *testing.T) {
	for _, text := range append(append(oddTexts, fractions...), "-31") {
		num, den, e := Parts(api.Frac(text))
		n, f := Small(api.Frac(text))
		sign, g := Sign(api.Frac(text))
		if c := checkOf(text); c != api.OK {
			same(t, "Parts of "+text, [2]string{num, den}, [2]string{})
			same(t, "Small of "+text, n, 0)
			same(t, "Sign of "+text, sign, 0)
			same(t, "errors of "+text, [3]api.Errno{e, f, g}, [3]api.Errno{c, c, c})
			continue
		}
		r, small := rat(text), api.ErrRange
		expected := 0
		if r.IsInt() && r.Num().IsInt64() {
			expected, small = int(r.Num().Int64()), api.OK
		}
		same(t, "Parts of "+text, [2]string{num, den}, [2]string{r.Num().String(), r.Denom().String()})
		same(t, "Small of "+text, n, expected)
		same(t, "Sign of "+text, sign, r.Sign())
		same(t, "errors of "+text, [3]api.Errno{e, f, g}, [3]api.Errno{api.OK, small, api.OK})
	}
}

// P1.2

func TestOperationsAreExact(t *testing.T) {
	l := samples(120)
	for _, a := range l {
		for _, b := range l {
			x, y := rat(string(a)), rat(string(b))
			what := " of " + string(a) + " and " + string(b)
			n, e := Compare(a, b)
			same(t, "Compare"+what, n, x.Cmp(y))
			same(t, "Compare"+what, e, api.OK)
			expect := func(name string, r *big.Rat, got api.Frac, e api.Errno) {
				t.Helper()
				c, f := fracOf(r)
				same(t, name+what, got, c)
				same(t, name+what, e, f)
			}
			sum, e := Add(a, b)
			expect("Add", new(big.Rat).Add(x, y), sum, e)
			difference, e := Sub(a, b)
			expect("Sub", new(big.Rat).Sub(x, y), difference, e)
			product, e := Mul(a, b)
			expect("Mul", new(big.Rat).Mul(x, y), product, e)
			quotient, e := Div(a, b)
			if y.Sign() != 0 {
				expect("Div", new(big.Rat).Quo(x, y), quotient, e)
			} else {
				same(t, "Div"+what, quotient, "")
				same(t, "Div"+what, e, api.ErrZero)
			}
		}
	}
}

func TestNegFloorAndCeilAreExact(t *testing.T) {
	for _, a := range samples(400) {
		x := rat(string(a))
		low := new(big.Int).Div(x.Num(), x.Denom())
		top := new(big.Int).Neg(new(big.Int).Div(new(big.Int).Neg(x.Num()), x.Denom()))
		for name, c := range map[string]struct {
			call     func(api.Frac) (api.Frac, api.Errno)
			expected *big.Rat
		}{"Neg": {Neg, new(big.Rat).Neg(x)}, "Floor": {Floor, new(big.Rat).SetInt(low)}, "Ceil": {Ceil, new(big.Rat).SetInt(top)}} {
			b, e := c.call(a)
			same(t, name+" of "+string(a), b, api.Frac(c.expected.RatString()))
			same(t, name+" of "+string(a), e, api.OK)
		}
	}
}

func TestOperationsReturnTheFirstErrorOfTheirFractions(t *testing.T) {
	two := map[string]func(a, b api.Frac) (api.Frac, api.Errno){"Add": Add, "Sub": Sub, "Mul": Mul, "Div": Div}
	one := map[string]func(a api.Frac) (api.Frac, api.Errno){"Neg": Neg, "Floor": Floor, "Ceil": Ceil}
	for _, x := range append([]string{"0", "1/2"}, oddTexts...) {
		e := checkOf(x)
		for name, f := range one {
			if b, g := f(api.Frac(x)); g != e || e != api.OK && b != "" {
				t.Errorf("%s of %s: %s, %d instead of %d", name, x, b, g, e)
			}
		}
		for _, y := range append([]string{"0", "1/2"}, oddTexts...) {
			e := e
			if e == api.OK {
				e = checkOf(y)
			}
			if e == api.OK {
				continue
			}
			for name, f := range two {
				if b, g := f(api.Frac(x), api.Frac(y)); g != e || b != "" {
					t.Errorf("%s of %s and %s: %s, %d instead of %d", name, x, y, b, g, e)
				}
			}
			if n, g := Compare(api.Frac(x), api.Frac(y)); g != e || n != 0 {
				t.Errorf("Compare of %s and %s: %d, %d instead of %d", x, y, n, g, e)
			}
		}
	}
}

func TestResultsMayBeTooLarge(t *testing.T) {
	great, small := api.Frac(nines), api.Frac("1/"+nines)
	for _, c := range []struct {
		name string
		call func(a, b api.Frac) (api.Frac, api.Errno)
		a, b api.Frac
		x    api.Frac
		e    api.Errno
	}{
		{"Add", Add, great, "1", "", api.ErrLarge}, {"Add", Add, great, "-1", api.Frac(nines[1:] + "8"), api.OK}, {"Add", Add, great, small, "", api.ErrLarge},
		{"Sub", Sub, great, "-1", "", api.ErrLarge}, {"Sub", Sub, great, great, "0", api.OK}, {"Mul", Mul, great, great, "", api.ErrLarge},
		{"Mul", Mul, great, small, "1", api.OK}, {"Mul", Mul, small, "1/2", "", api.ErrLarge}, {"Div", Div, great, small, "", api.ErrLarge}, {"Div", Div, small, small, "1", api.OK},
		// The numbers on the way are longer than the result.
		{"Add", Add, api.Frac("1/" + nines), api.Frac("-1/" + nines), "0", api.OK}, {"Mul", Mul, api.Frac(nines + "/2"), api.Frac("2/" + nines), "1", api.OK},
	} {
		x, e := c.call(c.a, c.b)
		same(t, c.name+" of "+string(c.a)+" and "+string(c.b), x, c.x)
		same(t, c.name+" of "+string(c.a)+" and "+string(c.b), e, c.e)
	}
}

func TestSumAddsFromLeftToRight(t *testing.T) {
	great := api.Frac(nines)
	full := slices.Repeat([]api.Frac{"1/2"}, api.MaxEvents)
	for _, c := range []struct {
		l []api.Frac
		a api.Frac
		e api.Errno
	}{
		{nil, "0", api.OK}, {[]api.Frac{}, "0", api.OK}, {[]api.Frac{"-7/3"}, "-7/3", api.OK}, {[]api.Frac{"3/8", "1/8", "5/2"}, "3", api.OK},
		{[]api.Frac{great, "1", "-1"}, "", api.ErrLarge}, {[]api.Frac{great, "-1", "1"}, great, api.OK}, {[]api.Frac{great, "1", "2/2"}, "", api.ErrForm}, {[]api.Frac{"1", api.Frac(long), "x"}, "", api.ErrLarge},
		{full, Whole(api.MaxEvents / 2), api.OK}, {append(slices.Clone(full), "1"), "", api.ErrMany}, {append(slices.Clone(full), "x"), "", api.ErrMany},
	} {
		kept := slices.Clone(c.l)
		a, e := Sum(c.l)
		same(t, "Sum", a, c.a)
		same(t, "error of Sum", e, c.e)
		if !slices.Equal(kept, c.l) {
			t.Error("Sum changed its list")
		}
	}
	r := rand.New(rand.NewSource(3))
	for range 50 {
		var l []api.Frac
		sum, expected, e := new(big.Rat), api.Frac("0"), api.OK
		for range r.Intn(9) {
			l = append(l, randomFrac(r, 12))
			sum.Add(sum, rat(string(l[len(l)-1])))
			if e == api.OK {
				expected, e = fracOf(sum)
			}
		}
		a, f := Sum(l)
		same(t, "Sum", a, expected)
		same(t, "error of Sum", f, e)
	}
}

// P1.3

// sure returns a result that has no error.
func sure(t *testing.T) func(a api.Frac, e api.Errno) api.Frac {
	return func(a api.Frac, e api.Errno) api.Frac {
		t.Helper()
		if e != api.OK {
			t.Fatalf("error %d", e)
		}
		return a
	}
}

func TestOperationsObeyTheLawsOfArithmetic(t *testing.T) {
	r, ok := rand.New(rand.NewSource(4)), sure(t)
	for range 1000 {
		a, b, c := randomFrac(r, 9), randomFrac(r, 9), randomFrac(r, 9)
		same(t, "a + b", ok(Add(a, b)), ok(Add(b, a)))
		same(t, "a * b", ok(Mul(a, b)), ok(Mul(b, a)))
		same(t, "a + b - b", ok(Sub(ok(Add(a, b)), b)), a)
		if b != "0" {
			same(t, "a * b / b", ok(Div(ok(Mul(a, b)), b)), a)
		}
		same(t, "(a + b) * c", ok(Mul(ok(Add(a, b)), c)), ok(Add(ok(Mul(a, c)), ok(Mul(b, c)))))
		order, _ := Compare(a, b)
		sign, _ := Sign(ok(Sub(a, b)))
		same(t, "order", order, sign)
	}
}

func TestFractionsLieBetweenFloorAndCeiling(t *testing.T) {
	for _, a := range samples(200) {
		ok := sure(t)
		low, top := ok(Floor(a)), ok(Ceil(a))
		below, _ := Compare(low, a)
		above, _ := Compare(a, top)
		if below > 0 || above > 0 {
			t.Errorf("%s does not lie between %s and %s", a, low, top)
		}
		gap := api.Frac("1")
		if !strings.Contains(string(a), "/") {
			gap = "0"
		}
		same(t, "gap at "+string(a), ok(Sub(top, low)), gap)
	}
}

func TestEachNumberHasOneText(t *testing.T) {
	r, ok := rand.New(rand.NewSource(5)), sure(t)
	for range 500 {
		a := randomFrac(r, 20)
		num, den, _ := Parts(a)
		factor := Whole(1 + r.Intn(1000000))
		if r.Intn(2) == 0 {
			factor = ok(Neg(factor))
		}
		above, below := ok(Mul(api.Frac(num), factor)), ok(Mul(api.Frac(den), factor))
		same(t, "Make", ok(Make(string(above), string(below))), a)
	}
}

// P1

func TestFractionFunctionsTakeAnyTexts(t *testing.T) {
	r := rand.New(rand.NewSource(6))
	texts := []string{strings.Repeat("9", 1<<20), strings.Repeat("0", 1<<20), "1/" + strings.Repeat("7", 1<<20), strings.Repeat("/", 1000), strings.Repeat("-", 1000)}
	for range 3000 {
		b := make([]byte, r.Intn(8))
		for i := range b {
			b[i] = "0123456789-/+ x\x00\xff"[r.Intn(17)]
		}
		texts = append(texts, string(b))
	}
	for i, text := range texts {
		a, b := api.Frac(text), api.Frac(texts[(i+1)%len(texts)])
		same(t, "Check", Check(a), checkOf(text))
		Make(text, string(b))
		Parts(a)
		Small(a)
		Sign(a)
		Compare(a, b)
		Add(a, b)
		Sub(a, b)
		Mul(a, b)
		Div(a, b)
		Neg(a)
		Floor(a)
		Ceil(a)
		Sum([]api.Frac{a, b})
	}
}
