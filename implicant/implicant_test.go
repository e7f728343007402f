package implicant_test

import (
	"math"
	"math/rand"
	"slices"
	"strconv"
	"strings"
	"testing"

	"pneumatic/api"
	"pneumatic/implicant"
	"pneumatic/truth"
)

var none api.Cube

func same[T comparable](t *testing.T, what string, got, expected T) {
	t.Helper()
	if got != expected {
		t.Errorf("%s: %v instead of %v", what, got, expected)
	}
}

func sameList[T comparable](t *testing.T, what string, got, expected []T) {
	t.Helper()
	if !slices.Equal(got, expected) {
		t.Errorf("%s: %v instead of %v", what, got, expected)
	}
}

// name returns the name of a call.
func name(function string, l ...api.Cube) string {
	for _, c := range l {
		function += " " + strconv.FormatUint(uint64(c.Care), 2) + "/" + strconv.FormatUint(uint64(c.Value), 2)
	}
	return function
}

// cubes returns all cubes of n variables, by Care and then by Value.
func cubes(n int) []api.Cube {
	var l []api.Cube
	for care := range uint(1) << n {
		for value := range care + 1 {
			if value&care == value {
				l = append(l, api.Cube{Care: care, Value: value})
			}
		}
	}
	return l
}

// covered reports whether a point is in a cube, variable by variable.
func covered(n int, c api.Cube, point int) bool {
	for i := range n {
		if c.Care>>i&1 == 1 && c.Value>>i&1 != uint(point>>i&1) {
			return false
		}
	}
	return true
}

// points returns the points of a cube.
func points(n int, c api.Cube) uint64 {
	var word uint64
	for point := range 1 << n {
		if covered(n, c, point) {
			word |= 1 << point
		}
	}
	return word
}

// cubeOf returns the cube with some points, if there is one.
func cubeOf(n int, word uint64) (api.Cube, bool) {
	for _, c := range cubes(n) {
		if points(n, c) == word {
			return c, true
		}
	}
	return none, false
}

// flaw is a cube of n variables with its error.
type flaw struct {
	n int
	c api.Cube
	e api.Errno
}

func flawed() []flaw {
	var l []flaw
	for _, n := range []int{-1, 7, 8, 63, 64, 65, api.None, math.MinInt, math.MaxInt} {
		l = append(l, flaw{n, none, api.ErrRange}, flaw{n, api.Cube{Care: 1, Value: 1}, api.ErrRange}, flaw{n, api.Cube{Care: math.MaxUint, Value: math.MaxUint}, api.ErrRange}, flaw{n, api.Cube{Value: 1}, api.ErrRange})
	}
	for n := range api.MaxVars + 1 {
		last := uint(1) << n
		for _, c := range []api.Cube{{Care: last}, {Care: last, Value: last}, {Care: last | 1, Value: 1}, {Care: last << 1}, {Care: 1 << 63}, {Care: math.MaxUint}, {Care: math.MaxUint, Value: math.MaxUint}, {Value: last}, {Value: 1 << 63}, {Care: last - 1, Value: last}, {Value: math.MaxUint}} {
			l = append(l, flaw{n, c, api.ErrForm})
		}
		if n > 0 {
			l = append(l, flaw{n, api.Cube{Value: 1}, api.ErrForm}, flaw{n, api.Cube{Care: last>>1 - 1, Value: last >> 1}, api.ErrForm}, flaw{n, api.Cube{Care: (last - 1) &^ 1, Value: last - 1}, api.ErrForm})
		}
	}
	return l
}

// P6.1

func TestCheck(t *testing.T) {
	for n := range api.MaxVars + 1 {
		right := 0
		for care := range uint(2) << n {
			for value := range uint(2) << n {
				c, f := api.Cube{Care: care, Value: value}, api.ErrForm
				if care < 1<<n && value&care == value {
					f = api.OK
					right++
				}
				same(t, name("Check", c), implicant.Check(n, c), f)
			}
		}
		same(t, "number of cubes", right, len(cubes(n)))
	}
	for _, f := range flawed() {
		same(t, name("Check", f.c), implicant.Check(f.n, f.c), f.e)
	}
}

func TestErrorsOfCubes(t *testing.T) {
	for _, f := range flawed() {
		for _, point := range []int{0, -1, 1 << 40} {
			in, e := implicant.Covers(f.n, f.c, point)
			same(t, name("Covers", f.c), in, false)
			same(t, name("error of Covers", f.c), e, f.e)
		}
		table, e := implicant.Table(f.n, f.c)
		same(t, name("Table", f.c), table, api.Table{})
		same(t, name("error of Table", f.c), e, f.e)
		s, e := implicant.Text(f.n, f.c)
		same(t, name("Text", f.c), s, "")
		same(t, name("error of Text", f.c), e, f.e)
		for _, pair := range [][2]api.Cube{{f.c, none}, {none, f.c}, {f.c, f.c}, {f.c, {Care: 1 << 30}}, {{Value: 1 << 30}, f.c}} {
			in, e := implicant.Inside(f.n, pair[0], pair[1])
			same(t, name("Inside", pair[:]...), in, false)
			same(t, name("error of Inside", pair[:]...), e, f.e)
			c, ok, e := implicant.Meet(f.n, pair[0], pair[1])
			same(t, name("Meet", pair[:]...), c, none)
			same(t, name("Meet", pair[:]...), ok, false)
			same(t, name("error of Meet", pair[:]...), e, f.e)
			c, ok, e = implicant.Consensus(f.n, pair[0], pair[1])
			same(t, name("Consensus", pair[:]...), c, none)
			same(t, name("Consensus", pair[:]...), ok, false)
			same(t, name("error of Consensus", pair[:]...), e, f.e)
		}
	}
}

func TestCoversAndTable(t *testing.T) {
	for n := range api.MaxVars + 1 {
		for _, c := range cubes(n) {
			for point := range 1 << n {
				in, e := implicant.Covers(n, c, point)
				same(t, name("Covers "+strconv.Itoa(point), c), in, covered(n, c, point))
				same(t, name("error of Covers", c), e, api.OK)
			}
			for _, point := range []int{-1, 1 << n, 64, 1 << 40, api.None, math.MinInt, math.MaxInt} {
				in, e := implicant.Covers(n, c, point)
				same(t, name("Covers "+strconv.Itoa(point), c), in, false)
				same(t, name("error of Covers", c), e, api.ErrRange)
			}
			table, e := implicant.Table(n, c)
			same(t, name("Table", c), table, api.Table{N: n, Bits: points(n, c)})
			same(t, name("error of Table", c), e, api.OK)
		}
	}
}

// agreement is the consensus of two cubes, variable by variable.
func agreement(n int, a, b api.Cube) (api.Cube, bool) {
	var c api.Cube
	both := 0
	for i := range n {
		bit := uint(1) << i
		switch {
		case a.Care&b.Care&bit != 0 && a.Value&bit != b.Value&bit:
			both++
		case a.Care&bit != 0:
			c.Care, c.Value = c.Care|bit, c.Value|a.Value&bit
		case b.Care&bit != 0:
			c.Care, c.Value = c.Care|bit, c.Value|b.Value&bit
		}
	}
	if both != 1 {
		return none, false
	}
	return c, true
}

func testPair(t *testing.T, n int, a, b api.Cube) {
	t.Helper()
	in, e := implicant.Inside(n, a, b)
	same(t, name("Inside", a, b), in, points(n, a)&^points(n, b) == 0)
	same(t, name("error of Inside", a, b), e, api.OK)
	c, ok, e := implicant.Meet(n, a, b)
	same(t, name("Meet", a, b), ok, points(n, a)&points(n, b) != 0)
	same(t, name("error of Meet", a, b), e, api.OK)
	if ok {
		same(t, name("points of Meet", a, b), points(n, c), points(n, a)&points(n, b))
		same(t, name("Check of Meet", a, b), implicant.Check(n, c), api.OK)
	} else {
		same(t, name("Meet", a, b), c, none)
	}
	c, ok, e = implicant.Consensus(n, a, b)
	expected, exists := agreement(n, a, b)
	same(t, name("Consensus", a, b), c, expected)
	same(t, name("Consensus", a, b), ok, exists)
	same(t, name("error of Consensus", a, b), e, api.OK)
}

func TestPairs(t *testing.T) {
	r := rand.New(rand.NewSource(62))
	for n := range api.MaxVars + 1 {
		l := cubes(n)
		if n <= 3 {
			for _, a := range l {
				for _, b := range l {
					testPair(t, n, a, b)
				}
			}
			continue
		}
		for range 3000 {
			testPair(t, n, l[r.Intn(len(l))], l[r.Intn(len(l))])
		}
		for range 1000 {
			a, keep := l[r.Intn(len(l))], uint(r.Uint64())
			testPair(t, n, a, api.Cube{Care: a.Care & keep, Value: a.Value & keep})
			testPair(t, n, api.Cube{Care: a.Care & keep, Value: a.Value & keep}, a)
		}
	}
}

func TestTexts(t *testing.T) {
	texts := map[string]bool{}
	for n := range api.MaxVars + 1 {
		for _, c := range cubes(n) {
			expected := ""
			for i := range n {
				switch {
				case c.Care>>i&1 == 0:
					expected += "-"
				default:
					expected += strconv.Itoa(int(c.Value >> i & 1))
				}
			}
			s, e := implicant.Text(n, c)
			same(t, name("Text", c), s, expected)
			same(t, name("error of Text", c), e, api.OK)
			same(t, "text that occurs before", texts[s], false)
			texts[s] = true
			m, d, e := implicant.Parse(s)
			same(t, "variables of Parse "+s, m, n)
			same(t, "Parse "+s, d, c)
			same(t, "error of Parse "+s, e, api.OK)
		}
	}
	for e, l := range map[api.Errno][]string{
		api.ErrLong:   {"-------", "0000000", "1111111", "xxxxxxx", "-----------x", strings.Repeat("é", 7), strings.Repeat("\xff", 7), strings.Repeat("-", 64), strings.Repeat("1", 1<<20)},
		api.ErrSyntax: {"x", "2", "01-x", "x01-", "0 1", " ", "-\n", "+", "*", "–", "0é", "é", "ééé", "éééé", "éééééé", "10１", "\x00", "\xff", "01\xff", "------"[:5] + "?", "--2---", ".", "/", "_"},
	} {
		for _, s := range l {
			n, c, f := implicant.Parse(s)
			same(t, "variables of Parse "+strconv.Quote(s), n, 0)
			same(t, "Parse "+strconv.Quote(s), c, none)
			same(t, "error of Parse "+strconv.Quote(s), f, e)
		}
	}
}

// TestErrorsOfAllCubes looks for errors of cubes from left to right.
func TestErrorsOfAllCubes(t *testing.T) {
	for n := range 5 {
		for _, a := range []api.Cube{none, {Care: 9}, {Value: 1}, {Care: 1, Value: 1}} {
			for _, b := range []api.Cube{none, {Care: 9}, {Value: 1}, {Care: 1, Value: 1}} {
				f := implicant.Check(n, a)
				if f == api.OK {
					f = implicant.Check(n, b)
				}
				_, e := implicant.Inside(n, a, b)
				same(t, name("error of Inside", a, b), e, f)
				_, _, e = implicant.Meet(n, a, b)
				same(t, name("error of Meet", a, b), e, f)
				_, _, e = implicant.Consensus(n, a, b)
				same(t, name("error of Consensus", a, b), e, f)
			}
		}
	}
}

func TestExamplesOfTheDocument(t *testing.T) {
	cube := func(s string) api.Cube {
		_, c, e := implicant.Parse(s)
		same(t, "error of Parse "+s, e, api.OK)
		return c
	}
	table, _ := implicant.Table(3, cube("1-0"))
	l, _ := truth.Points(table)
	sameList(t, "points of 1-0", l, []int{1, 3})
	c, ok, e := implicant.Meet(3, cube("1-0"), cube("-10"))
	same(t, "Meet", c, cube("110"))
	same(t, "Meet", ok, true)
	same(t, "error of Meet", e, api.OK)
	c, ok, e = implicant.Consensus(3, cube("1-0"), cube("-10"))
	same(t, "Consensus", c, none)
	same(t, "Consensus", ok, false)
	same(t, "error of Consensus", e, api.OK)
	c, ok, e = implicant.Consensus(3, cube("1-0"), cube("--1"))
	same(t, "Consensus", c, cube("1--"))
	same(t, "Consensus", ok, true)
	same(t, "error of Consensus", e, api.OK)

	on, _ := truth.Parse("00010111")
	for free, expected := range map[string][]string{"00000000": {"11-", "1-1", "-11"}, "10000000": {"11-", "1-1", "-11"}} {
		free, _ := truth.Parse(free)
		x := implicant.Task{On: on, Free: free}
		primes, e := implicant.Primes(x)
		same(t, "error of Primes", e, api.OK)
		sameList(t, "Primes", primes, []api.Cube{cube(expected[0]), cube(expected[1]), cube(expected[2])})
		essential, e := implicant.Essential(x)
		sameList(t, "Essential", essential, []int{0, 1, 2})
		same(t, "error of Essential", e, api.OK)
	}
	free, _ := truth.Parse("01100000")
	primes, e := implicant.Primes(implicant.Task{On: on, Free: free})
	same(t, "error of Primes", e, api.OK)
	same(t, "prime 1--", slices.Contains(primes, cube("1--")), true)
	same(t, "prime -1-", slices.Contains(primes, cube("-1-")), true)
	sameList(t, "Primes", primes, []api.Cube{cube("1--"), cube("-1-")})
}
