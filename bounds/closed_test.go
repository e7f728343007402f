package bounds_test

import (
	"math"
	"math/rand"
	"slices"
	"testing"

	"pneumatic/api"
	"pneumatic/bounds"
)

// P11.2

// The small systems have bounds of at most 2 about up to 3 times. A difference of these that has a bound has one of at most farthest; one that has none may be greater by 1, with times of the window.
const (
	farthest = 6
	window   = 2*farthest + 1
)

// tried returns all times of a window that keep bounds of at most 3 times, each list with t[0].
func tried(b api.Bounds) [][]int {
	var l [][]int
	var visit func(times []int)
	visit = func(times []int) {
		if len(times) > b.N {
			l = append(l, slices.Clone(times))
			return
		}
		j := len(times)
		for k := -window; k <= window; k++ {
			if fits(b, times, j, k) {
				visit(append(slices.Clone(times), k))
			}
		}
	}
	visit([]int{0})
	return l
}

// fits reports whether t[j] = k keeps the bounds to the times before it.
func fits(b api.Bounds, times []int, j, k int) bool {
	for i, t := range times {
		if b.Most[i][j] != none && k-t > b.Most[i][j] || b.Most[j][i] != none && t-k > b.Most[j][i] {
			return false
		}
	}
	return true
}

// closedBy returns the closed bounds of times of the window, which are some.
func closedBy(n int, l [][]int) api.Bounds {
	b := open(n)
	for i := range n + 1 {
		for j := range n + 1 {
			greatest := math.MinInt
			for _, times := range l {
				greatest = max(greatest, times[j]-times[i])
			}
			b.Most[i][j] = greatest
			if greatest > farthest {
				b.Most[i][j] = none
			}
		}
	}
	return b
}

// systems returns all bounds from -2 to 2 about 1 time, all from -1 to 1 and others about 2, and some about 3.
func systems() []api.Bounds {
	values := []int{none, -1, 0, 1, -2, 2}
	l := []api.Bounds{open(0)}
	for _, x := range values {
		for _, y := range values {
			l = append(l, of([]int{0, x}, []int{y, 0}))
		}
	}
	for k := range 1 << 12 {
		at := func(place int) int { return values[k>>(2*place)&3] }
		l = append(l, of([]int{0, at(0), at(1)}, []int{at(2), 0, at(3)}, []int{at(4), at(5), 0}))
	}
	r := rand.New(rand.NewSource(115))
	for range 1000 {
		l = append(l, random(r, 2, -2, 2, 4), random(r, 3, -1, 2, 2))
		if b := kept(r, 3, 1, 2); isSmall(b) {
			l = append(l, b)
		}
	}
	return l
}

// isSmall reports whether bounds are those of a small system.
func isSmall(b api.Bounds) bool {
	for _, row := range b.Most {
		for _, k := range row {
			if k != none && (k < -2 || k > 2) {
				return false
			}
		}
	}
	return true
}

func TestClosedBoundsByDefinition(t *testing.T) {
	for _, b := range systems() {
		l := tried(b)
		closed, cycle, ok, e := bounds.Close(b)
		if len(l) == 0 {
			expect(t, name("Close", b), closed, e, api.Bounds{}, api.OK)
			same(t, name("Close", b), ok, false)
			proves, e := bounds.Verify(b, cycle)
			same(t, name("Verify", b, cycle...), proves, true)
			same(t, name("error of Verify", b, cycle...), e, api.OK)
			testConflict(t, b)
			continue
		}
		expected := closedBy(b.N, l)
		expect(t, name("Close", b), closed, e, expected, api.OK)
		same(t, name("Close", b), ok && len(cycle) == 0, true)
		testExtents(t, b, expected)
		testForget(t, b, expected)
		testShift(t, b, expected)
	}
}

// testConflict checks the errors for bounds that contradict.
func testConflict(t *testing.T, b api.Bounds) {
	t.Helper()
	what := name("conflict", b)
	times, e := bounds.Witness(b)
	same(t, what, len(times), 0)
	same(t, what, e, api.ErrConflict)
	for i := range b.N + 1 {
		low, high, e := bounds.Extent(b, i)
		same(t, what, [2]int{low, high}, [2]int{})
		same(t, what, e, api.ErrConflict)
		expected := api.ErrConflict
		if i == 0 {
			expected = api.ErrRange
		}
		c, e := bounds.Forget(b, i)
		expect(t, what, c, e, api.Bounds{}, expected)
		c, e = bounds.Shift(b, i)
		expect(t, what, c, e, api.Bounds{}, expected)
	}
}

// negative returns the negative number, or None.
func negative(k int) int {
	if k == none {
		return none
	}
	return -k
}

// testExtents checks the extents and the witness of bounds with their closed bounds.
func testExtents(t *testing.T, b, closed api.Bounds) {
	t.Helper()
	var least []int
	for i := range b.N + 1 {
		low, high, e := bounds.Extent(b, i)
		same(t, name("Extent", b, i), [2]int{low, high}, [2]int{negative(closed.Most[i][0]), closed.Most[0][i]})
		same(t, name("error of Extent", b, i), e, api.OK)
		least = append(least, negative(closed.Most[i][0]))
	}
	expected, f := least[1:], api.OK
	if slices.Contains(least, none) {
		expected, f = nil, api.ErrState
	}
	times, e := bounds.Witness(b)
	same(t, name("Witness", b), slices.Equal(times, expected), true)
	same(t, name("error of Witness", b), e, f)
}

// testForget checks what is left when each time is forgotten.
func testForget(t *testing.T, b, closed api.Bounds) {
	t.Helper()
	for i := 1; i <= b.N; i++ {
		expected := copied(closed)
		for j := range b.N + 1 {
			if j != i {
				expected.Most[i][j], expected.Most[j][i] = none, none
			}
		}
		c, e := bounds.Forget(b, i)
		expect(t, name("Forget", b, i), c, e, expected, api.OK)
	}
}

// testShift checks the bounds less each time: those without t[0], with this time in its place.
func testShift(t *testing.T, b, closed api.Bounds) {
	t.Helper()
	for i := 1; i <= b.N; i++ {
		expected := open(b.N - 1)
		old := func(k int) int {
			switch {
			case k == 0:
				return i
			case k < i:
				return k
			}
			return k + 1
		}
		for j := range b.N {
			for k := range b.N {
				expected.Most[j][k] = closed.Most[old(j)][old(k)]
			}
		}
		c, e := bounds.Shift(b, i)
		expect(t, name("Shift", b, i), c, e, expected, api.OK)
	}
}

// least returns the least sum of bounds along paths from i to j that visit no index twice, or None.
func least(b api.Bounds, i, j int, visited []bool) int {
	if i == j {
		return 0
	}
	best := none
	visited[i] = true
	for k := range b.N + 1 {
		if visited[k] || b.Most[i][k] == none {
			continue
		}
		if rest := least(b, k, j, visited); rest != none && (best == none || b.Most[i][k]+rest < best) {
			best = b.Most[i][k] + rest
		}
	}
	visited[i] = false
	return best
}

// closedByPaths returns the closed bounds of bounds that do not contradict.
func closedByPaths(b api.Bounds) api.Bounds {
	c := open(b.N)
	for i, row := range c.Most {
		for j := range row {
			row[j] = least(b, i, j, make([]bool, b.N+1))
		}
	}
	return c
}

func TestClosedBoundsByPaths(t *testing.T) {
	r := rand.New(rand.NewSource(116))
	for range 400 {
		b := kept(r, 1+r.Intn(5), 1000000, 1+r.Intn(4))
		expected := closedByPaths(b)
		closed, cycle, ok, e := bounds.Close(b)
		expect(t, name("Close", b), closed, e, expected, api.OK)
		same(t, name("Close", b), ok && len(cycle) == 0, true)
		testExtents(t, b, expected)
		testForget(t, b, expected)
		testShift(t, b, expected)
	}
}

func TestLeqByDefinition(t *testing.T) {
	r := rand.New(rand.NewSource(117))
	l := systems()
	for range 6000 {
		a, b := l[r.Intn(len(l))], l[r.Intn(len(l))]
		switch {
		case a.N == 0:
			b = open(0)
		case a.N != b.N || r.Intn(3) == 0:
			// Bounds that are a little different hold for many of the times, or for all of them.
			i := r.Intn(a.N + 1)
			b = with(a, [3]int{i, (i + 1) % (a.N + 1), []int{none, -1, 0, 1, 2}[r.Intn(5)]})
		}
		expected := true
		for _, times := range tried(a) {
			expected = expected && holds(b, times)
		}
		leq, e := bounds.Leq(a, b)
		same(t, name("Leq", a)+name(",", b), leq, expected)
		same(t, name("error of Leq", a)+name(",", b), e, api.OK)
	}
}

func TestLeqOfContradictions(t *testing.T) {
	other := of([]int{0, none, none}, []int{none, 0, -1}, []int{none, 0, 0})
	for _, x := range []struct {
		a, b api.Bounds
		leq  bool
	}{
		{contradiction(), example(), true}, {example(), contradiction(), false}, {contradiction(), other, true}, {other, contradiction(), true}, {open(2), other, false}, {other, open(2), true}, {open(2), example(), false}, {example(), open(2), true}, {open(0), open(0), true},
		// Bounds that follow from others need not be among them.
		{example(), with(open(2), [3]int{0, 1, 450}), true}, {example(), with(open(2), [3]int{0, 1, 449}), false}, {with(example(), [3]int{0, 1, 450}), example(), true},
	} {
		leq, e := bounds.Leq(x.a, x.b)
		same(t, name("Leq", x.a)+name(",", x.b), leq, x.leq)
		same(t, name("error of Leq", x.a), e, api.OK)
	}
}

func TestExamplesOfTheDocument(t *testing.T) {
	b, e := bounds.New(0)
	same(t, "error of New", e, api.OK)
	b, e = bounds.Grow(b, span(200, 500))
	same(t, "error of Grow", e, api.OK)
	b, e = bounds.Grow(b, span(300, 350))
	same(t, "error of Grow", e, api.OK)
	b, e = bounds.Add(b, 2, 1, 100)
	expect(t, "Add", b, e, example(), api.OK)
	closed, cycle, ok, e := bounds.Close(b)
	expect(t, "Close", closed, e, of([]int{0, 450, 350}, []int{-200, 0, 150}, []int{-300, 100, 0}), api.OK)
	same(t, "Close", ok && len(cycle) == 0, true)
	low, high, e := bounds.Extent(b, 1)
	same(t, "Extent", [2]int{low, high}, [2]int{200, 450})
	same(t, "error of Extent", e, api.OK)
	times, e := bounds.Witness(b)
	same(t, "Witness", slices.Equal(times, []int{200, 300}), true)
	same(t, "error of Witness", e, api.OK)
	shifted, e := bounds.Shift(b, 1)
	expect(t, "Shift", shifted, e, of([]int{0, 150}, []int{100, 0}), api.OK)
	low, high, e = bounds.Extent(shifted, 1)
	same(t, "Extent", [2]int{low, high}, [2]int{-100, 150})
	same(t, "error of Extent", e, api.OK)
	forgotten, e := bounds.Forget(b, 2)
	expect(t, "Forget", forgotten, e, of([]int{0, 450, none}, []int{-200, 0, none}, []int{none, none, 0}), api.OK)

	b, e = bounds.Add(b, 1, 2, -160)
	expect(t, "Add", b, e, contradiction(), api.OK)
	closed, cycle, ok, e = bounds.Close(b)
	expect(t, "Close", closed, e, api.Bounds{}, api.OK)
	same(t, "Close", ok, false)
	proves, e := bounds.Verify(b, cycle)
	same(t, "Verify", proves, true)
	same(t, "error of Verify", e, api.OK)
	testConflict(t, b)
}

func TestErrorsOfIndices(t *testing.T) {
	for _, b := range []api.Bounds{open(0), open(1), example(), contradiction(), open(12)} {
		for _, i := range []int{-1, b.N + 1, 13, 14, math.MinInt, math.MaxInt, none} {
			low, high, e := bounds.Extent(b, i)
			same(t, name("Extent", b, i), [2]int{low, high}, [2]int{})
			same(t, name("error of Extent", b, i), e, api.ErrRange)
		}
		for _, i := range []int{-1, 0, b.N + 1, 13, 14, math.MinInt, math.MaxInt, none} {
			c, e := bounds.Forget(b, i)
			expect(t, name("Forget", b, i), c, e, api.Bounds{}, api.ErrRange)
			c, e = bounds.Shift(b, i)
			expect(t, name("Shift", b, i), c, e, api.Bounds{}, api.ErrRange)
		}
	}
}

func TestLargeBounds(t *testing.T) {
	zero := api.Bounds{}
	for _, sign := range []int{1, -1} {
		// From t[0] to t[1] to t[2]: what follows is just right, and then too large by 1.
		right := with(open(3), [3]int{0, 1, sign * (most - 5)}, [3]int{1, 2, sign * 5})
		large := with(open(3), [3]int{0, 1, sign * (most - 5)}, [3]int{1, 2, sign * 6})
		closed, _, ok, e := bounds.Close(right)
		expect(t, name("Close", right), closed, e, with(right, [3]int{0, 2, sign * most}), api.OK)
		same(t, name("Close", right), ok, true)
		closed, cycle, ok, e := bounds.Close(large)
		expect(t, name("Close", large), closed, e, zero, api.ErrLarge)
		same(t, name("Close", large), ok || len(cycle) > 0, false)
		// Forget and Shift do not return bounds on some of the times.
		c, e := bounds.Forget(large, 1)
		expect(t, name("Forget", large, 1), c, e, zero, api.ErrLarge)
		c, e = bounds.Forget(large, 3)
		expect(t, name("Forget", large, 3), c, e, zero, api.ErrLarge)
		c, e = bounds.Forget(large, 2)
		expect(t, name("Forget", large, 2), c, e, with(open(3), [3]int{0, 1, sign * (most - 5)}), api.OK)
		c, e = bounds.Shift(large, 1)
		expect(t, name("Shift", large, 1), c, e, with(open(2), [3]int{0, 1, sign * 6}), api.OK)
		c, e = bounds.Shift(large, 2)
		expect(t, name("Shift", large, 2), c, e, with(open(2), [3]int{1, 0, sign * 6}), api.OK)
		// Between the other times it counts for Shift, too.
		inner := with(open(3), [3]int{2, 1, sign * most}, [3]int{1, 3, sign})
		c, e = bounds.Shift(inner, 2)
		expect(t, name("Shift", inner, 2), c, e, zero, api.ErrLarge)
		c, e = bounds.Shift(inner, 3)
		expect(t, name("Shift", inner, 3), c, e, zero, api.ErrLarge)
		c, e = bounds.Shift(inner, 1)
		expect(t, name("Shift", inner, 1), c, e, zero, api.ErrLarge)
		c, e = bounds.Forget(inner, 2)
		expect(t, name("Forget", inner, 2), c, e, with(open(3), [3]int{1, 3, sign}), api.OK)
		// Extents have no limit.
		low, high, e := bounds.Extent(large, 2)
		same(t, name("Extent", large, 2), [2]int{low, high}, [2]int{none, sign * (most + 1)})
		same(t, name("error of Extent", large, 2), e, api.OK)
	}
}

func TestTheGreatestSums(t *testing.T) {
	const n = api.MaxClocks
	up, down := open(n), open(n)
	for i := range n {
		up.Most[i][i+1], down.Most[i+1][i] = most, -most
	}
	for i := range n + 1 {
		low, high, e := bounds.Extent(up, i)
		expected := none
		if i == 0 {
			expected = 0
		}
		same(t, name("Extent", up, i), [2]int{low, high}, [2]int{expected, i * most})
		same(t, name("error of Extent", up, i), e, api.OK)
		low, high, e = bounds.Extent(down, i)
		same(t, name("Extent", down, i), [2]int{low, high}, [2]int{i * most, expected})
		same(t, name("error of Extent", down, i), e, api.OK)
	}
	times, e := bounds.Witness(down)
	same(t, "error of Witness", e, api.OK)
	for i, time := range times {
		same(t, "Witness", time, (i+1)*most)
	}
	leq, e := bounds.Leq(up, with(open(n), [3]int{0, 1, most}))
	same(t, "Leq", leq, true)
	same(t, "error of Leq", e, api.OK)
	// All bounds as low as they can be: the worst contradiction.
	worst := api.Bounds{N: n}
	for i := range n + 1 {
		row := slices.Repeat([]int{-most}, n+1)
		row[i] = 0
		worst.Most = append(worst.Most, row)
	}
	b, cycle, ok, e := bounds.Close(worst)
	expect(t, "Close", b, e, api.Bounds{}, api.OK)
	same(t, "Close", ok, false)
	proves, e := bounds.Verify(worst, cycle)
	same(t, "Verify", proves, true)
	same(t, "error of Verify", e, api.OK)
	// One long cycle proves a contradiction by 1 alone, if it is there.
	for _, sum := range []int{0, -1} {
		ring := copied(up)
		ring.Most[n][0] = -most
		for i := range n - 1 {
			ring.Most[i][i+1] = 0
		}
		ring.Most[n-1][n] += sum
		b, cycle, ok, e = bounds.Close(ring)
		same(t, "Close", ok, sum == 0)
		same(t, "error of Close", e, api.OK)
		same(t, "cycle", len(cycle), -sum*(n+1))
	}
}
