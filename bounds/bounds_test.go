package bounds_test

import (
	"math"
	"math/rand"
	"slices"
	"strconv"
	"testing"

	"pneumatic/api"
	"pneumatic/bounds"
)

const (
	none = api.None
	most = bounds.MaxBound
)

func same[T comparable](t *testing.T, what string, got, expected T) {
	t.Helper()
	if got != expected {
		t.Errorf("%s: %v instead of %v", what, got, expected)
	}
}

// equal reports whether two bounds are the same.
func equal(a, b api.Bounds) bool {
	return a.N == b.N && slices.EqualFunc(a.Most, b.Most, slices.Equal[[]int])
}

// expect compares the result of a call with bounds and an error.
func expect(t *testing.T, what string, a api.Bounds, e api.Errno, expected api.Bounds, f api.Errno) {
	t.Helper()
	if !equal(a, expected) {
		t.Errorf("%s: %v instead of %v", what, a, expected)
	}
	same(t, "error of "+what, e, f)
}

// of returns the bounds with these rows.
func of(rows ...[]int) api.Bounds { return api.Bounds{N: len(rows) - 1, Most: rows} }

// open returns the bounds about n times without bounds, but for those of a time to itself.
func open(n int) api.Bounds {
	b := api.Bounds{N: n}
	for i := range n + 1 {
		row := slices.Repeat([]int{none}, n+1)
		row[i] = 0
		b.Most = append(b.Most, row)
	}
	return b
}

// copied returns bounds that share no memory with others.
func copied(b api.Bounds) api.Bounds {
	c := api.Bounds{N: b.N}
	for _, row := range b.Most {
		c.Most = append(c.Most, slices.Clone(row))
	}
	return c
}

// with returns bounds with some more: each has i, j, and the bound.
func with(b api.Bounds, more ...[3]int) api.Bounds {
	c := copied(b)
	for _, x := range more {
		c.Most[x[0]][x[1]] = x[2]
	}
	return c
}

// example has the bounds of the first example of the chapter.
func example() api.Bounds {
	return of([]int{0, 500, 350}, []int{-200, 0, none}, []int{-300, 100, 0})
}

// contradiction has those of the second one.
func contradiction() api.Bounds { return with(example(), [3]int{1, 2, -160}) }

// name returns the name of a call.
func name(function string, b api.Bounds, numbers ...int) string {
	function += " " + strconv.Itoa(b.N) + ":"
	for _, row := range b.Most {
		function += " ["
		for _, k := range row {
			if k == none {
				function += " -"
			} else {
				function += " " + strconv.Itoa(k)
			}
		}
		function += " ]"
	}
	for _, k := range numbers {
		function += ", " + strconv.Itoa(k)
	}
	return function
}

// random returns bounds about n times; about one in gap of them is no bound.
func random(r *rand.Rand, n, low, high, gap int) api.Bounds {
	b := open(n)
	for i := range n + 1 {
		for j := range n + 1 {
			if i != j && r.Intn(gap) > 0 {
				b.Most[i][j] = low + r.Intn(high-low+1)
			}
		}
	}
	return b
}

// kept returns random bounds that given times keep.
func kept(r *rand.Rand, n, size, gap int) api.Bounds {
	times := make([]int, n+1)
	for i := 1; i <= n; i++ {
		times[i] = r.Intn(2*size+1) - size
	}
	b := random(r, n, 0, size, gap)
	for i, row := range b.Most {
		for j := range row {
			if i != j && row[j] != none {
				row[j] += times[j] - times[i]
			}
		}
	}
	return b
}

// flawed has bounds, and what Check returns for them.
type flawed struct {
	b api.Bounds
	e api.Errno
}

func flawedBounds() []flawed {
	zeros := func(n int) []int { return make([]int, n) }
	thirteen := api.Bounds{N: 13}
	for range 14 {
		thirteen.Most = append(thirteen.Most, zeros(14))
	}
	return []flawed{
		{api.Bounds{N: -1}, api.ErrRange}, {thirteen, api.ErrRange}, {api.Bounds{N: math.MinInt}, api.ErrRange}, {api.Bounds{N: math.MaxInt}, api.ErrRange}, {api.Bounds{N: none}, api.ErrRange}, {api.Bounds{N: -1, Most: [][]int{{0}}}, api.ErrRange},
		{api.Bounds{}, api.ErrShape}, {api.Bounds{Most: [][]int{nil}}, api.ErrShape}, {api.Bounds{Most: [][]int{{0, 0}}}, api.ErrShape}, {api.Bounds{Most: [][]int{{0}, {0}}}, api.ErrShape}, {api.Bounds{N: 1, Most: [][]int{{0}}}, api.ErrShape}, {api.Bounds{N: 1, Most: [][]int{{0, 0}}}, api.ErrShape}, {api.Bounds{N: 1, Most: [][]int{{0, 0}, {0}}}, api.ErrShape}, {api.Bounds{N: 1, Most: [][]int{{0}, {0, 0}}}, api.ErrShape}, {api.Bounds{N: 1, Most: [][]int{{0, 0}, {0, 0, 0}}}, api.ErrShape}, {api.Bounds{N: 1, Most: [][]int{{0, 0}, {0, 0}, {0, 0}}}, api.ErrShape}, {api.Bounds{N: 12, Most: thirteen.Most}, api.ErrShape},
		// A wrong row comes before a wrong number above it.
		{api.Bounds{N: 1, Most: [][]int{{5, most + 1}, {0}}}, api.ErrShape},
		{of([]int{most + 1}), api.ErrRange}, {of([]int{-most - 1}), api.ErrRange}, {of([]int{none + 1}), api.ErrRange}, {of([]int{none - 1}), api.ErrRange}, {of([]int{math.MaxInt}), api.ErrRange}, {of([]int{math.MinInt}), api.ErrRange}, {of([]int{1}), api.ErrForm}, {of([]int{-1}), api.ErrForm}, {of([]int{none}), api.ErrForm}, {of([]int{most}), api.ErrForm}, {of([]int{-most}), api.ErrForm},
		// The first number that is wrong counts, row by row.
		{of([]int{0, most + 1}, []int{0, 1}), api.ErrRange}, {of([]int{1, most + 1}, []int{0, 0}), api.ErrForm}, {of([]int{0, 0}, []int{-most - 1, 1}), api.ErrRange}, {of([]int{0, 0}, []int{0, none}), api.ErrForm}, {of([]int{0, none}, []int{0, 7}), api.ErrForm}, {of([]int{0, 0, most + 1}, []int{0, 5, 0}, []int{0, 0, 0}), api.ErrRange}, {of([]int{0, 0, 0}, []int{0, 5, 0}, []int{most + 1, 0, 0}), api.ErrForm},
	}
}

// rightBounds has bounds at the limits of what is right.
func rightBounds() []api.Bounds {
	l := []api.Bounds{of([]int{0}), of([]int{0, most}, []int{-most, 0}), of([]int{0, -most}, []int{none, 0}), example(), contradiction()}
	for n := range api.MaxClocks + 1 {
		l = append(l, open(n))
	}
	return l
}

func span(low, high int) api.Span { return api.Span{Low: low, High: high} }

// P11.1

func TestCheck(t *testing.T) {
	for _, x := range flawedBounds() {
		same(t, name("Check", x.b), bounds.Check(x.b), x.e)
	}
	for _, b := range rightBounds() {
		same(t, name("Check", b), bounds.Check(b), api.OK)
	}
}

func TestErrorsOfBoundsComeFirst(t *testing.T) {
	zero := api.Bounds{}
	for _, x := range flawedBounds() {
		for _, i := range []int{0, 1, -1, 13} {
			b, e := bounds.Add(x.b, i, i, most+1)
			expect(t, name("Add", x.b), b, e, zero, x.e)
			b, e = bounds.Forget(x.b, i)
			expect(t, name("Forget", x.b), b, e, zero, x.e)
			b, e = bounds.Shift(x.b, i)
			expect(t, name("Shift", x.b), b, e, zero, x.e)
			low, high, e := bounds.Extent(x.b, i)
			same(t, name("Extent", x.b), [2]int{low, high}, [2]int{})
			same(t, name("error of Extent", x.b), e, x.e)
			proves, e := bounds.Verify(x.b, []int{i}[:max(0, min(i, 1))])
			same(t, name("Verify", x.b), proves, false)
			same(t, name("error of Verify", x.b), e, x.e)
			hold, e := bounds.Holds(x.b, []int{0, i, math.MaxInt})
			same(t, name("Holds", x.b), hold, false)
			same(t, name("error of Holds", x.b), e, x.e)
		}
		b, e := bounds.Grow(x.b, span(2, 1))
		expect(t, name("Grow", x.b), b, e, zero, x.e)
		b, cycle, ok, e := bounds.Close(x.b)
		expect(t, name("Close", x.b), b, e, zero, x.e)
		same(t, name("Close", x.b), ok || len(cycle) > 0, false)
		times, e := bounds.Witness(x.b)
		same(t, name("Witness", x.b), len(times), 0)
		same(t, name("error of Witness", x.b), e, x.e)
	}
}

func TestFirstErrorOfTwoBounds(t *testing.T) {
	l := flawedBounds()
	for _, b := range []api.Bounds{open(0), open(3), contradiction()} {
		l = append(l, flawed{b, api.OK})
	}
	for _, x := range l {
		for _, y := range l {
			expected := x.e
			if expected == api.OK {
				expected = y.e
			}
			if expected == api.OK && x.b.N != y.b.N {
				expected = api.ErrShape
			}
			if expected == api.OK {
				continue
			}
			b, e := bounds.Meet(x.b, y.b)
			expect(t, name("Meet", x.b)+name(",", y.b), b, e, api.Bounds{}, expected)
			leq, e := bounds.Leq(x.b, y.b)
			same(t, name("Leq", x.b)+name(",", y.b), leq, false)
			same(t, name("error of Leq", x.b)+name(",", y.b), e, expected)
		}
	}
}

func TestNew(t *testing.T) {
	for n := range api.MaxClocks + 1 {
		b, e := bounds.New(n)
		expect(t, "New "+strconv.Itoa(n), b, e, open(n), api.OK)
	}
	for _, n := range []int{-1, 13, 14, 64, math.MinInt, math.MaxInt, none} {
		b, e := bounds.New(n)
		expect(t, "New "+strconv.Itoa(n), b, e, api.Bounds{}, api.ErrRange)
	}
}

func TestAddLowersOneBound(t *testing.T) {
	r := rand.New(rand.NewSource(111))
	numbers := []int{-most, -most + 1, -160, -1, 0, 1, 99, 100, 101, 350, most - 1, most}
	for range 200 {
		b := random(r, r.Intn(5), -200, 200, 3)
		for i := range b.N + 1 {
			for j := range b.N + 1 {
				for _, k := range append(numbers, r.Intn(401)-200) {
					expected, f := api.Bounds{}, api.ErrArg
					if i != j {
						lowered := k
						if b.Most[i][j] != none && b.Most[i][j] < k {
							lowered = b.Most[i][j]
						}
						expected, f = with(b, [3]int{i, j, lowered}), api.OK
					}
					c, e := bounds.Add(b, i, j, k)
					expect(t, name("Add", b, i, j, k), c, e, expected, f)
				}
			}
		}
	}
}

func TestErrorsOfAdd(t *testing.T) {
	for _, b := range []api.Bounds{open(0), example(), open(12)} {
		n := b.N
		for _, x := range []struct {
			i, j, most int
			e          api.Errno
		}{
			{-1, 0, 0, api.ErrRange}, {0, -1, 0, api.ErrRange}, {n + 1, 0, 0, api.ErrRange}, {0, n + 1, 0, api.ErrRange}, {-1, -1, 0, api.ErrRange}, {n + 1, n + 1, most + 1, api.ErrRange}, {math.MinInt, math.MaxInt, 0, api.ErrRange}, {0, none, 0, api.ErrRange}, {math.MaxInt, 0, 0, api.ErrRange},
			{0, 0, 0, api.ErrArg}, {n, n, 5, api.ErrArg}, {n, n, most + 1, api.ErrArg}, {0, 0, none, api.ErrArg}, {0, 0, math.MinInt, api.ErrArg},
		} {
			c, e := bounds.Add(b, x.i, x.j, x.most)
			expect(t, name("Add", b, x.i, x.j, x.most), c, e, api.Bounds{}, x.e)
		}
		for _, k := range []int{most + 1, -most - 1, none, none + 1, none - 1, math.MaxInt, math.MinInt} {
			if n > 0 {
				c, e := bounds.Add(b, 0, n, k)
				expect(t, name("Add", b, 0, n, k), c, e, api.Bounds{}, api.ErrRange)
			}
		}
	}
}

func TestGrowAddsOneTime(t *testing.T) {
	r := rand.New(rand.NewSource(112))
	for n := range api.MaxClocks {
		for _, s := range []api.Span{span(0, 0), span(0, 5), span(7, 7), span(200, 500), span(0, api.MaxTime), span(api.MaxTime, api.MaxTime)} {
			b := random(r, n, -most, most, 3)
			expected := open(n + 1)
			for i, row := range b.Most {
				copy(expected.Most[i], row)
			}
			expected.Most[0][n+1], expected.Most[n+1][0] = s.High, -s.Low
			c, e := bounds.Grow(b, s)
			expect(t, name("Grow", b, s.Low, s.High), c, e, expected, api.OK)
		}
		for _, x := range []struct {
			s api.Span
			e api.Errno
		}{{span(2, 1), api.ErrOrder}, {span(-1, 1), api.ErrRange}, {span(0, api.MaxTime+1), api.ErrRange}, {span(math.MaxInt, math.MinInt), api.ErrRange}} {
			c, e := bounds.Grow(open(n), x.s)
			expect(t, name("Grow", open(n), x.s.Low, x.s.High), c, e, api.Bounds{}, x.e)
		}
	}
	for _, s := range []api.Span{span(0, 0), span(1, 2), span(2, 1), span(-1, 0)} {
		c, e := bounds.Grow(open(12), s)
		expect(t, "Grow of the most times", c, e, api.Bounds{}, api.ErrMany)
	}
}

func TestMeetHasTheLesserBounds(t *testing.T) {
	r := rand.New(rand.NewSource(113))
	for n := range api.MaxClocks + 1 {
		for range 40 {
			a, b := random(r, n, -9, 9, 2), random(r, n, -9, 9, 2)
			expected := open(n)
			for i, row := range expected.Most {
				for j := range row {
					x, y := a.Most[i][j], b.Most[i][j]
					switch {
					case x == none:
						row[j] = y
					case y == none || x < y:
						row[j] = x
					default:
						row[j] = y
					}
				}
			}
			c, e := bounds.Meet(a, b)
			expect(t, name("Meet", a)+name(",", b), c, e, expected, api.OK)
		}
	}
}

func TestVerifySumsTheBoundsOfACycle(t *testing.T) {
	b := contradiction()
	for _, x := range []struct {
		cycle  []int
		proves bool
		e      api.Errno
	}{
		{[]int{1, 2}, true, api.OK}, {[]int{2, 1}, true, api.OK}, {[]int{1, 2, 1, 2}, true, api.OK}, {[]int{1, 1, 2, 2}, true, api.OK}, {[]int{0, 2, 1, 2}, true, api.OK},
		{[]int{0, 1, 2}, false, api.OK}, {[]int{0, 2, 1}, false, api.OK}, {[]int{0, 1}, false, api.OK}, {[]int{0, 2}, false, api.OK}, {[]int{0}, false, api.OK}, {[]int{2}, false, api.OK}, {[]int{0, 0}, false, api.OK},
		{nil, false, api.ErrEmpty}, {[]int{}, false, api.ErrEmpty}, {[]int{3}, false, api.ErrRange}, {[]int{1, 2, -1}, false, api.ErrRange}, {[]int{-1, 1, 2}, false, api.ErrRange}, {[]int{1, 2, 3, 2}, false, api.ErrRange}, {[]int{1, math.MaxInt}, false, api.ErrRange}, {[]int{math.MinInt}, false, api.ErrRange}, {[]int{none}, false, api.ErrRange},
	} {
		proves, e := bounds.Verify(b, x.cycle)
		same(t, name("Verify", b, x.cycle...), proves, x.proves)
		same(t, name("error of Verify", b, x.cycle...), e, x.e)
	}
	// With None among the bounds nothing is proved, at whichever place it is; a sum of 0 proves nothing, either.
	b = of([]int{0, -5, none}, []int{-5, 0, 3}, []int{-7, -3, 0})
	for _, x := range []struct {
		cycle  []int
		proves bool
	}{{[]int{0, 1}, true}, {[]int{0, 1, 2}, true}, {[]int{0, 2, 1}, false}, {[]int{0, 2}, false}, {[]int{2, 0}, false}, {[]int{2, 1, 0}, false}, {[]int{1, 0, 2}, false}, {[]int{1, 2}, false}, {[]int{0, 1, 0, 2}, false}} {
		proves, e := bounds.Verify(b, x.cycle)
		same(t, name("Verify", b, x.cycle...), proves, x.proves)
		same(t, name("error of Verify", b, x.cycle...), e, api.OK)
	}
}

func TestVerifySumsLongCycles(t *testing.T) {
	// Behind 2^20 bounds the sum is the number None, though none of them is.
	const half = 1 << 20
	b := of([]int{0, -half}, []int{-half, 0})
	long := slices.Repeat([]int{0, 1}, half/2)
	for _, cycle := range [][]int{long, append(slices.Clone(long), 0), append(slices.Clone(long), 0, 1)} {
		proves, e := bounds.Verify(b, cycle)
		same(t, "Verify", proves, true)
		same(t, "error of Verify", e, api.OK)
	}
	// What follows may make the sum positive again.
	const rise = 61 * half
	b = of([]int{0, -half, rise}, []int{-half, 0, none}, []int{rise, none, 0})
	proves, e := bounds.Verify(b, append(slices.Repeat([]int{0, 1}, half/2+31), slices.Repeat([]int{0, 2}, 9000)...))
	same(t, "Verify", proves, false)
	same(t, "error of Verify", e, api.OK)
	b = of([]int{0, most}, []int{most, 0})
	proves, e = bounds.Verify(b, long)
	same(t, "Verify", proves, false)
	same(t, "error of Verify", e, api.OK)
	b = of([]int{0, -most}, []int{most, 0})
	proves, e = bounds.Verify(b, long)
	same(t, "Verify", proves, false)
	same(t, "error of Verify", e, api.OK)
}

// holds reports whether times with t[0] keep bounds, straight from the definition.
func holds(b api.Bounds, times []int) bool {
	for i, row := range b.Most {
		for j, k := range row {
			if k != none && times[j]-times[i] > k {
				return false
			}
		}
	}
	return true
}

func TestHolds(t *testing.T) {
	r := rand.New(rand.NewSource(114))
	for n := range api.MaxClocks + 1 {
		for range 300 {
			b, times := kept(r, n, 3, 2), []int{0}
			for range n {
				times = append(times, r.Intn(7)-3)
			}
			hold, e := bounds.Holds(b, times[1:])
			same(t, name("Holds", b, times[1:]...), hold, holds(b, times))
			same(t, name("error of Holds", b, times[1:]...), e, api.OK)
		}
	}
	b := example()
	for _, x := range []struct {
		times []int
		hold  bool
		e     api.Errno
	}{
		{[]int{200, 300}, true, api.OK}, {[]int{450, 350}, true, api.OK}, {[]int{199, 300}, false, api.OK}, {[]int{200, 299}, false, api.OK}, {[]int{451, 350}, false, api.OK}, {[]int{400, 300}, true, api.OK}, {[]int{401, 300}, false, api.OK}, {[]int{200, 351}, false, api.OK}, {[]int{most, most}, false, api.OK}, {[]int{-most, -most}, false, api.OK},
		{nil, false, api.ErrShape}, {[]int{200}, false, api.ErrShape}, {[]int{200, 300, 0}, false, api.ErrShape}, {[]int{0, 200, 300}, false, api.ErrShape}, {[]int{most + 1}, false, api.ErrShape},
		{[]int{200, most + 1}, false, api.ErrRange}, {[]int{-most - 1, 300}, false, api.ErrRange}, {[]int{none, 0}, false, api.ErrRange}, {[]int{0, math.MaxInt}, false, api.ErrRange}, {[]int{math.MinInt, 0}, false, api.ErrRange},
	} {
		hold, e := bounds.Holds(b, x.times)
		same(t, name("Holds", b, x.times...), hold, x.hold)
		same(t, name("error of Holds", b, x.times...), e, x.e)
	}
	hold, e := bounds.Holds(open(0), nil)
	same(t, "Holds without times", hold, true)
	same(t, "error of Holds", e, api.OK)
	hold, e = bounds.Holds(open(2), []int{-most, most})
	same(t, "Holds without bounds", hold, true)
	same(t, "error of Holds", e, api.OK)
}
