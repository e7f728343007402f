package truth_test

import (
	"math"
	"math/rand"
	"slices"
	"strconv"
	"strings"
	"testing"

	"pneumatic/api"
	"pneumatic/truth"
)

var none api.Table

func of(n int, bits uint64) api.Table { return api.Table{N: n, Bits: bits} }

func same[T comparable](t *testing.T, what string, got, expected T) {
	t.Helper()
	if got != expected {
		t.Errorf("%s: %v instead of %v", what, got, expected)
	}
}

func sameList(t *testing.T, what string, got, expected []int) {
	t.Helper()
	if !slices.Equal(got, expected) {
		t.Errorf("%s: %v instead of %v", what, got, expected)
	}
}

// expect compares the result of a call with a table and an error.
func expect(t *testing.T, what string, a api.Table, e api.Errno, expected api.Table, f api.Errno) {
	t.Helper()
	same(t, what, a, expected)
	same(t, "error of "+what, e, f)
}

// name returns the name of a call.
func name(function string, l ...api.Table) string {
	for _, a := range l {
		function += " " + strconv.Itoa(a.N) + ":" + strconv.FormatUint(a.Bits, 16)
	}
	return function
}

// pair is a table, and what Check returns for it.
type pair struct {
	t api.Table
	e api.Errno
}

func wrong() []pair {
	const full = math.MaxUint64
	return []pair{
		{of(-1, 0), api.ErrRange}, {of(7, 0), api.ErrRange}, {of(-1, full), api.ErrRange}, {of(7, full), api.ErrRange}, {of(64, 1), api.ErrRange}, {of(math.MinInt, 0), api.ErrRange}, {of(math.MaxInt, 1), api.ErrRange}, {of(api.None, 0), api.ErrRange},
		{of(0, 2), api.ErrForm}, {of(0, 3), api.ErrForm}, {of(0, 1<<63), api.ErrForm}, {of(1, 4), api.ErrForm}, {of(2, 16), api.ErrForm}, {of(3, 256), api.ErrForm}, {of(4, 1<<16), api.ErrForm}, {of(5, 1<<32), api.ErrForm}, {of(5, 1<<63), api.ErrForm}, {of(5, full), api.ErrForm}, {of(0, full), api.ErrForm},
	}
}

// tables returns all functions of n variables, or some of them if there are too many.
func tables(n int) []api.Table {
	var l []api.Table
	if n <= 3 {
		for bits := range uint64(1) << (1 << n) {
			l = append(l, of(n, bits))
		}
		return l
	}
	last := uint64(math.MaxUint64) >> (64 - 1<<n)
	l = append(l, of(n, 0), of(n, 1), of(n, last), of(n, last-1), of(n, last>>1), of(n, last/2+1), of(n, last/3), of(n, last/3*2), of(n, last/5), of(n, last/17))
	r := rand.New(rand.NewSource(int64(40 + n)))
	for range 200 {
		bits := r.Uint64()
		for range r.Intn(3) {
			bits &= r.Uint64()
		}
		l = append(l, of(n, bits&last))
	}
	// Functions that do not depend on all variables are rare among the others.
	for i := range n {
		var low uint64
		for point := range 1 << n {
			low |= l[len(l)-1-i].Bits >> (point &^ (1 << i)) & 1 << point
		}
		l = append(l, of(n, low))
	}
	return l
}

// few returns functions of n variables, at most about so many.
func few(n, most int) []api.Table {
	l := tables(n)
	step := 1 + len(l)/most
	var part []api.Table
	for i := 0; i < len(l); i += step {
		part = append(part, l[i])
	}
	return part
}

// is returns the value at a point, straight from the definition.
func is(t api.Table, point int) bool { return t.Bits&(1<<point) != 0 }

// made returns the function with the values that a function of points has.
func made(n int, value func(point int) bool) api.Table {
	t := of(n, 0)
	for point := range 1 << n {
		if value(point) {
			t.Bits |= 1 << point
		}
	}
	return t
}

// set returns a point with a variable changed to a value.
func set(point, i int, value bool) int {
	if value {
		return point | 1<<i
	}
	return point &^ (1 << i)
}

func odd() []int {
	return []int{math.MinInt, api.None, -64, -2, -1, 0, 1, 2, 3, 4, 5, 6, 7, 8, 31, 32, 63, 64, 65, 1 << 32, math.MaxInt}
}

// P4.1

func TestCheckAcceptsTablesAlone(t *testing.T) {
	for _, x := range wrong() {
		same(t, name("Check", x.t), truth.Check(x.t), x.e)
	}
	for n := range api.MaxVars + 1 {
		for _, a := range tables(n) {
			same(t, name("Check", a), truth.Check(a), api.OK)
		}
		if n == api.MaxVars {
			continue
		}
		for bit := 1 << n; bit < 64; bit++ {
			a := of(n, 1<<bit|1)
			same(t, name("Check", a), truth.Check(a), api.ErrForm)
		}
	}
}

func TestConstAndVar(t *testing.T) {
	for _, n := range odd() {
		right := n >= 0 && n <= api.MaxVars
		for _, value := range []bool{false, true} {
			expected, f := none, api.ErrRange
			if right {
				expected, f = made(n, func(int) bool { return value }), api.OK
			}
			a, e := truth.Const(n, value)
			expect(t, "Const "+strconv.Itoa(n), a, e, expected, f)
		}
		for _, i := range odd() {
			expected, f := none, api.ErrRange
			if right && i >= 0 && i < n {
				expected, f = made(n, func(point int) bool { return point>>i%2 == 1 }), api.OK
			}
			a, e := truth.Var(n, i)
			expect(t, "Var "+strconv.Itoa(n)+" "+strconv.Itoa(i), a, e, expected, f)
		}
	}
	a, e := truth.Const(api.MaxVars, true)
	expect(t, "Const", a, e, of(6, math.MaxUint64), api.OK)
	a, e = truth.Const(0, true)
	expect(t, "Const", a, e, of(0, 1), api.OK)
	a, e = truth.Var(3, 1)
	expect(t, "Var", a, e, of(3, 0b11001100), api.OK)
}

func TestValueAtPoints(t *testing.T) {
	for n := range api.MaxVars + 1 {
		for _, a := range few(n, 60) {
			for point := range 1 << n {
				value, e := truth.Value(a, point)
				same(t, name("Value", a)+" at "+strconv.Itoa(point), value, is(a, point))
				same(t, name("error of Value", a), e, api.OK)
			}
		}
		all := made(n, func(int) bool { return true })
		for _, point := range []int{-1, 1 << n, 1<<n + 1, math.MinInt, math.MaxInt, api.None, 64, 1 << 40} {
			value, e := truth.Value(all, point)
			same(t, name("Value", all), value, false)
			same(t, name("error of Value", all), e, api.ErrRange)
		}
	}
}

func TestFirstErrorOfOneTable(t *testing.T) {
	for _, x := range wrong() {
		for _, i := range odd() {
			value, e := truth.Value(x.t, i)
			same(t, name("Value", x.t), value, false)
			same(t, name("error of Value", x.t), e, x.e)
			a, e := truth.Cofactor(x.t, i, i%2 == 0)
			expect(t, name("Cofactor", x.t), a, e, none, x.e)
			rises, falls, e := truth.Unate(x.t, i)
			same(t, name("Unate", x.t), rises || falls, false)
			same(t, name("error of Unate", x.t), e, x.e)
		}
		a, e := truth.Not(x.t)
		expect(t, name("Not", x.t), a, e, none, x.e)
		l, e := truth.Points(x.t)
		sameList(t, name("Points", x.t), l, nil)
		same(t, name("error of Points", x.t), e, x.e)
		l, e = truth.Depends(x.t)
		sameList(t, name("Depends", x.t), l, nil)
		same(t, name("error of Depends", x.t), e, x.e)
		for _, order := range [][]int{nil, {0}, {1, 0}, {0, 0}, {0, 1, 2, 3, 4, 5, 6}} {
			a, e := truth.Rename(x.t, order)
			expect(t, name("Rename", x.t), a, e, none, x.e)
		}
		text, e := truth.Text(x.t)
		same(t, name("Text", x.t), text, "")
		same(t, name("error of Text", x.t), e, x.e)
	}
}

type operation struct {
	name string
	call func(a, b api.Table) (api.Table, api.Errno)
	on   func(x, y bool) bool
}

func operations() []operation {
	return []operation{
		{"And", truth.And, func(x, y bool) bool { return x && y }},
		{"Or", truth.Or, func(x, y bool) bool { return x || y }},
		{"Xor", truth.Xor, func(x, y bool) bool { return x != y }},
	}
}

func TestFirstErrorOfTwoTables(t *testing.T) {
	l := wrong()
	for n := range api.MaxVars + 1 {
		l = append(l, pair{of(n, 1), api.OK})
	}
	for _, x := range l {
		for _, y := range l {
			f := x.e
			if f == api.OK {
				f = y.e
			}
			if f == api.OK && x.t.N != y.t.N {
				f = api.ErrShape
			}
			if f == api.OK {
				continue
			}
			for _, o := range operations() {
				a, e := o.call(x.t, y.t)
				expect(t, name(o.name, x.t, y.t), a, e, none, f)
			}
		}
	}
}

func TestOperationsArePointwise(t *testing.T) {
	for n := range api.MaxVars + 1 {
		l := few(n, 64)
		for _, a := range l {
			complement, e := truth.Not(a)
			expect(t, name("Not", a), complement, e, made(n, func(point int) bool { return !is(a, point) }), api.OK)
			for _, b := range l {
				for _, o := range operations() {
					c, e := o.call(a, b)
					expect(t, name(o.name, a, b), c, e, made(n, func(point int) bool { return o.on(is(a, point), is(b, point)) }), api.OK)
				}
			}
		}
	}
}

func TestPointsAscend(t *testing.T) {
	for n := range api.MaxVars + 1 {
		for _, a := range tables(n) {
			var expected []int
			for point := range 1 << n {
				if is(a, point) {
					expected = append(expected, point)
				}
			}
			l, e := truth.Points(a)
			sameList(t, name("Points", a), l, expected)
			same(t, name("error of Points", a), e, api.OK)
			for i := range l {
				l[i] = -1
			}
			again, _ := truth.Points(a)
			sameList(t, name("Points", a), again, expected)
		}
	}
}

// P4.2

func TestCofactorDependsAndUnateFollowTheirDefinitions(t *testing.T) {
	for n := range api.MaxVars + 1 {
		for _, a := range tables(n) {
			var depends []int
			for i := range n {
				rises, falls := true, true
				for point := range 1 << n {
					low, high := is(a, set(point, i, false)), is(a, set(point, i, true))
					rises = rises && !(low && !high)
					falls = falls && !(high && !low)
				}
				if !rises || !falls {
					depends = append(depends, i)
				}
				for _, value := range []bool{false, true} {
					c, e := truth.Cofactor(a, i, value)
					expect(t, name("Cofactor", a)+" "+strconv.Itoa(i), c, e, made(n, func(point int) bool { return is(a, set(point, i, value)) }), api.OK)
				}
				up, down, e := truth.Unate(a, i)
				same(t, name("Unate", a)+" "+strconv.Itoa(i), [2]bool{up, down}, [2]bool{rises, falls})
				same(t, name("error of Unate", a), e, api.OK)
			}
			l, e := truth.Depends(a)
			sameList(t, name("Depends", a), l, depends)
			same(t, name("error of Depends", a), e, api.OK)
		}
	}
}

func TestVariablesThatThereAreNot(t *testing.T) {
	for n := range api.MaxVars + 1 {
		for _, a := range few(n, 5) {
			for _, i := range []int{-1, n, n + 1, math.MinInt, math.MaxInt, api.None, 64, 63} {
				for _, value := range []bool{false, true} {
					c, e := truth.Cofactor(a, i, value)
					expect(t, name("Cofactor", a), c, e, none, api.ErrRange)
				}
				rises, falls, e := truth.Unate(a, i)
				same(t, name("Unate", a), rises || falls, false)
				same(t, name("error of Unate", a), e, api.ErrRange)
			}
		}
	}
}

// orders calls f with all orders of n variables; f must not keep them.
func orders(n int, first []int, f func([]int)) {
	if len(first) == n {
		f(first)
		return
	}
	for i := range n {
		if !slices.Contains(first, i) {
			orders(n, append(first[:len(first):len(first)], i), f)
		}
	}
}

// renamed returns what Rename returns, straight from the definition.
func renamed(a api.Table, order []int) api.Table {
	return made(a.N, func(x int) bool {
		y := 0
		for i, variable := range order {
			y = set(y, i, x&(1<<variable) != 0)
		}
		return is(a, y)
	})
}

func TestRenameFollowsItsDefinition(t *testing.T) {
	for n := range api.MaxVars + 1 {
		l := few(n, []int{2, 4, 16, 256, 40, 10, 5}[n])
		orders(n, nil, func(order []int) {
			before := slices.Clone(order)
			for _, a := range l {
				b, e := truth.Rename(a, order)
				expect(t, name("Rename", a), b, e, renamed(a, order), api.OK)
			}
			sameList(t, "the order is kept", order, before)
		})
	}
	// The variables 0, 1 and 2 become 1, 2 and 0.
	for i, expected := range []int{1, 2, 0} {
		a, _ := truth.Var(3, i)
		b, _ := truth.Var(3, expected)
		c, e := truth.Rename(a, []int{1, 2, 0})
		expect(t, name("Rename", a), c, e, b, api.OK)
	}
}

func TestOrdersHaveEachVariableOnce(t *testing.T) {
	for _, x := range []struct {
		n     int
		order []int
		e     api.Errno
	}{
		{0, nil, api.OK}, {0, []int{}, api.OK}, {0, []int{0}, api.ErrShape}, {0, []int{-1}, api.ErrShape}, {1, []int{0}, api.OK}, {1, nil, api.ErrShape}, {1, []int{0, 0}, api.ErrShape}, {1, []int{1}, api.ErrRange}, {1, []int{-1}, api.ErrRange},
		{2, []int{0}, api.ErrShape}, {2, []int{9}, api.ErrShape}, {2, []int{0, 1, 2}, api.ErrShape}, {2, []int{0, 0, 9}, api.ErrShape}, {2, []int{0, 0}, api.ErrTwice}, {2, []int{1, 1}, api.ErrTwice}, {2, []int{2, 2}, api.ErrRange}, {2, []int{0, 2}, api.ErrRange}, {2, []int{-1, -1}, api.ErrRange},
		{3, []int{0, 0, 9}, api.ErrTwice}, {3, []int{0, 9, 0}, api.ErrRange}, {3, []int{2, 1, 2}, api.ErrTwice}, {3, []int{2, 1, 3}, api.ErrRange}, {3, []int{9, 0, 0}, api.ErrRange}, {3, []int{2, 1, 0}, api.OK}, {3, []int{0, math.MinInt, 1}, api.ErrRange}, {3, []int{0, 1, math.MaxInt}, api.ErrRange},
		{6, []int{5, 4, 3, 2, 1, 0}, api.OK}, {6, []int{5, 4, 3, 2, 1, 5}, api.ErrTwice}, {6, []int{5, 4, 3, 2, 1, 6}, api.ErrRange}, {6, []int{0, 1, 2, 3, 4, 5, 6}, api.ErrShape}, {6, make([]int, 100000), api.ErrShape},
	} {
		for _, a := range few(x.n, 5) {
			expected := none
			if x.e == api.OK {
				expected = renamed(a, x.order)
			}
			b, e := truth.Rename(a, x.order)
			expect(t, name("Rename", a), b, e, expected, x.e)
		}
	}
}

// text returns the text of a function, straight from the definition.
func text(a api.Table) string {
	s := ""
	for point := range 1 << a.N {
		if is(a, point) {
			s += "1"
		} else {
			s += "0"
		}
	}
	return s
}

func TestTexts(t *testing.T) {
	for n := range api.MaxVars + 1 {
		for _, a := range tables(n) {
			s, e := truth.Text(a)
			same(t, name("Text", a), s, text(a))
			same(t, name("error of Text", a), e, api.OK)
		}
	}
	for s, expected := range map[string]api.Table{
		"0": of(0, 0), "1": of(0, 1), "00": of(1, 0), "01": of(1, 2), "10": of(1, 1), "0001": of(2, 8), "0110": of(2, 6), "01010011": of(3, 0xca), "0000000000000001": of(4, 1<<15), strings.Repeat("01", 16): of(5, 0xaaaaaaaa), strings.Repeat("1", 64): of(6, math.MaxUint64), strings.Repeat("0", 63) + "1": of(6, 1<<63), "1" + strings.Repeat("0", 63): of(6, 1),
	} {
		a, e := truth.Parse(s)
		expect(t, "Parse "+s, a, e, expected, api.OK)
	}
}

func TestErrorsOfTexts(t *testing.T) {
	for n := range 200 {
		for _, letter := range []string{"0", "1", "x"} {
			f := api.OK
			switch {
			case n > 64:
				f = api.ErrLong
			case letter == "x" && n > 0:
				f = api.ErrSyntax
			case !slices.Contains([]int{1, 2, 4, 8, 16, 32, 64}, n):
				f = api.ErrShape
			}
			expected := none
			if f == api.OK {
				expected = made([]int{1: 0, 2: 1, 4: 2, 8: 3, 16: 4, 32: 5, 64: 6}[n], func(int) bool { return letter == "1" })
			}
			a, e := truth.Parse(strings.Repeat(letter, n))
			expect(t, "Parse "+strconv.Itoa(n)+" times "+letter, a, e, expected, f)
		}
	}
	for e, l := range map[api.Errno][]string{
		api.ErrShape:  {"", "000", "101", "11111", "0000000", strings.Repeat("0", 63), strings.Repeat("1", 33)},
		api.ErrSyntax: {"x", "2", "012", "0x", "x0", "-1", "0-", " 0", "0 ", "0\n", "01 1", "0121", "000x", "x000", "0x0", "\x00", "\x000", "/", "\xff", "0\xff", "é", "0é", "éé", "ééé", "٠", "０１", "0000000é", strings.Repeat("0", 63) + "2", "2" + strings.Repeat("0", 63), strings.Repeat("\xff", 64), strings.Repeat("0", 62) + "x"},
		api.ErrLong:   {strings.Repeat("0", 65), strings.Repeat("x", 65), strings.Repeat("0", 64) + "x", strings.Repeat("0", 128), strings.Repeat("é", 65), strings.Repeat("\xff", 65), strings.Repeat("1", 1<<20)},
	} {
		for _, s := range l {
			a, f := truth.Parse(s)
			expect(t, "Parse "+strconv.Quote(s), a, f, none, e)
		}
	}
}

func TestExamplesOfTheDocument(t *testing.T) {
	first, _ := truth.Var(2, 0)
	second, _ := truth.Var(2, 1)
	both, _ := truth.And(first, second)
	one, _ := truth.Xor(first, second)
	conjunction, _ := truth.Text(both)
	exclusive, _ := truth.Text(one)
	same(t, "And", conjunction, "0001")
	same(t, "Xor", exclusive, "0110")
	for s, expected := range map[string][2]bool{"0111": {true, false}, "0110": {false, false}, "1000": {false, true}, "1111": {true, true}} {
		a, _ := truth.Parse(s)
		for i := range 2 {
			rises, falls, e := truth.Unate(a, i)
			same(t, "Unate "+s, [2]bool{rises, falls}, expected)
			same(t, "error of Unate", e, api.OK)
		}
	}
	a, _ := truth.Parse("01010011")
	high, _ := truth.Cofactor(a, 2, true)
	low, _ := truth.Cofactor(a, 2, false)
	s, _ := truth.Text(high)
	same(t, "Cofactor", s, "00110011")
	s, _ = truth.Text(low)
	same(t, "Cofactor", s, "01010101")
	variable, _ := truth.Var(3, 1)
	same(t, "Cofactor", high, variable)
}

// P4.3

func and(a, b api.Table) api.Table { c, _ := truth.And(a, b); return c }
func or(a, b api.Table) api.Table  { c, _ := truth.Or(a, b); return c }
func xor(a, b api.Table) api.Table { c, _ := truth.Xor(a, b); return c }
func not(a api.Table) api.Table    { c, _ := truth.Not(a); return c }

// testLaws checks the laws of a Boolean algebra for three functions.
func testLaws(t *testing.T, a, b, c api.Table) {
	t.Helper()
	zero, _ := truth.Const(a.N, false)
	one, _ := truth.Const(a.N, true)
	for law, x := range map[string][2]api.Table{
		"And commutes":     {and(a, b), and(b, a)},
		"Or commutes":      {or(a, b), or(b, a)},
		"And associates":   {and(a, and(b, c)), and(and(a, b), c)},
		"Or associates":    {or(a, or(b, c)), or(or(a, b), c)},
		"And distributes":  {and(a, or(b, c)), or(and(a, b), and(a, c))},
		"Or distributes":   {or(a, and(b, c)), and(or(a, b), or(a, c))},
		"And absorbs":      {and(a, or(a, b)), a},
		"Or absorbs":       {or(a, and(a, b)), a},
		"And has one":      {and(a, one), a},
		"Or has zero":      {or(a, zero), a},
		"And complements":  {and(a, not(a)), zero},
		"Or complements":   {or(a, not(a)), one},
		"Not is undone":    {not(not(a)), a},
		"De Morgan":        {not(and(a, b)), or(not(a), not(b))},
		"Xor is this":      {xor(a, b), or(and(a, not(b)), and(not(a), b))},
		"Xor is undone":    {xor(xor(a, b), b), a},
		"Xor distributes":  {and(a, xor(b, c)), xor(and(a, b), and(a, c))},
		"Xor with one":     {xor(a, one), not(a)},
		"Xor with oneself": {xor(a, a), zero},
	} {
		same(t, name(law, a, b, c), x[0], x[1])
	}
}

func TestFunctionsAreABooleanAlgebra(t *testing.T) {
	r := rand.New(rand.NewSource(43))
	for n := range api.MaxVars + 1 {
		l := tables(n)
		if n <= 1 {
			for _, a := range l {
				for _, b := range l {
					for _, c := range l {
						testLaws(t, a, b, c)
					}
				}
			}
			continue
		}
		for range 400 {
			testLaws(t, l[r.Intn(len(l))], l[r.Intn(len(l))], l[r.Intn(len(l))])
		}
	}
}

func TestFunctionsAreTheirCofactors(t *testing.T) {
	for n := range api.MaxVars + 1 {
		for _, a := range tables(n) {
			depends, _ := truth.Depends(a)
			for i := range n {
				variable, _ := truth.Var(n, i)
				low, _ := truth.Cofactor(a, i, false)
				high, _ := truth.Cofactor(a, i, true)
				same(t, name("cofactors", a), or(and(variable, high), and(not(variable), low)), a)
				for _, c := range []api.Table{low, high} {
					l, _ := truth.Depends(c)
					same(t, name("Depends of a cofactor", c), slices.Contains(l, i), false)
				}
				same(t, name("Depends", a), slices.Contains(depends, i), low != high)
			}
		}
	}
}

func TestRenamingIsUndone(t *testing.T) {
	r := rand.New(rand.NewSource(44))
	for n := range api.MaxVars + 1 {
		for _, a := range tables(n) {
			order := r.Perm(n)
			inverse := make([]int, n)
			for i, variable := range order {
				inverse[variable] = i
			}
			b, e := truth.Rename(a, order)
			same(t, name("error of Rename", a), e, api.OK)
			c, e := truth.Rename(b, inverse)
			expect(t, name("Rename twice", a), c, e, a, api.OK)
			before, _ := truth.Points(a)
			after, _ := truth.Points(b)
			same(t, name("points of Rename", a), len(after), len(before))
			for i, variable := range order {
				for _, value := range []bool{false, true} {
					cofactor, _ := truth.Cofactor(a, i, value)
					moved, _ := truth.Rename(cofactor, order)
					d, _ := truth.Cofactor(b, variable, value)
					same(t, name("Cofactor of Rename", a), d, moved)
				}
			}
		}
	}
}

func TestEachFunctionHasOneText(t *testing.T) {
	texts := map[string]api.Table{}
	for n := range api.MaxVars + 1 {
		for _, a := range tables(n) {
			s, _ := truth.Text(a)
			b, e := truth.Parse(s)
			expect(t, "Parse "+s, b, e, a, api.OK)
			if before, ok := texts[s]; ok {
				same(t, "function of "+s, before, a)
			}
			texts[s] = a
		}
	}
}
