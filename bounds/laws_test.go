package bounds_test

import (
	"math/rand"
	"slices"
	"testing"

	"pneumatic/api"
	"pneumatic/bounds"
)

// P11.3

// many returns bounds about up to 12 times, with and without contradictions.
func many() []api.Bounds {
	r := rand.New(rand.NewSource(118))
	l := []api.Bounds{example(), contradiction()}
	for n := range api.MaxClocks + 1 {
		l = append(l, open(n))
		for range 60 {
			l = append(l, kept(r, n, 900000, 1+r.Intn(5)), random(r, n, -20, 300, 1+r.Intn(5)), random(r, n, -most/20, most/12, 2+r.Intn(6)))
			low := kept(r, n, 900000, 2)
			for i := range n {
				low.Most[i+1][0] = 900000
			}
			l = append(l, low)
		}
	}
	return l
}

// isAtMost reports whether no bound is greater than the other one.
func isAtMost(a, b api.Bounds) bool {
	for i, row := range a.Most {
		for j, k := range row {
			if b.Most[i][j] != none && (k == none || k > b.Most[i][j]) {
				return false
			}
		}
	}
	return true
}

func TestBoundsAreClosedOnce(t *testing.T) {
	for _, b := range many() {
		what := name("Close", b)
		closed, cycle, ok, e := bounds.Close(b)
		same(t, "error of "+what, e, api.OK)
		if !ok {
			proves, e := bounds.Verify(b, cycle)
			same(t, "Verify behind "+what, proves, true)
			same(t, "error of Verify behind "+what, e, api.OK)
			testConflict(t, b)
			continue
		}
		same(t, what, isAtMost(closed, b), true)
		again, _, ok, e := bounds.Close(closed)
		expect(t, what+" twice", again, e, closed, api.OK)
		same(t, what+" twice", ok, true)
		for _, x := range [][2]api.Bounds{{b, closed}, {closed, b}} {
			leq, e := bounds.Leq(x[0], x[1])
			same(t, "Leq behind "+what, leq, true)
			same(t, "error of Leq behind "+what, e, api.OK)
		}
	}
}

func TestClosedBoundsAreTheLeast(t *testing.T) {
	r := rand.New(rand.NewSource(119))
	for _, b := range many() {
		closed, _, ok, _ := bounds.Close(b)
		if !ok || b.N == 0 {
			continue
		}
		i, j := r.Intn(b.N+1), r.Intn(b.N+1)
		if i == j || closed.Most[i][j] == none {
			continue
		}
		// The difference can be as great as its bound, but no greater.
		exact, e := bounds.Add(b, j, i, -closed.Most[i][j])
		same(t, name("error of Add", b), e, api.OK)
		_, _, ok, _ = bounds.Close(exact)
		same(t, name("Close", exact), ok, true)
		over, e := bounds.Add(b, j, i, -closed.Most[i][j]-1)
		same(t, name("error of Add", b), e, api.OK)
		_, _, ok, _ = bounds.Close(over)
		same(t, name("Close", over), ok, false)
	}
}

func TestTheWitnessIsTheLeast(t *testing.T) {
	some := 0
	for _, b := range many() {
		times, e := bounds.Witness(b)
		if e != api.OK {
			continue
		}
		some++
		hold, e := bounds.Holds(b, times)
		same(t, name("Holds", b, times...), hold, true)
		same(t, name("error of Holds", b, times...), e, api.OK)
		what := name("Witness", b)
		for i, time := range times {
			low, _, e := bounds.Extent(b, i+1)
			same(t, what, low, time)
			same(t, what, e, api.OK)
			less, _ := bounds.Add(b, 0, i+1, time-1)
			_, _, ok, _ := bounds.Close(less)
			same(t, what, ok, false)
		}
	}
	same(t, "some have a witness", some > 300, true)
}

func TestMeetIsTheGreatestBelowBoth(t *testing.T) {
	r := rand.New(rand.NewSource(120))
	for range 2000 {
		n := r.Intn(6)
		a, b := kept(r, n, 5, 3), kept(r, n, 5, 3)
		both, e := bounds.Meet(a, b)
		same(t, name("error of Meet", a), e, api.OK)
		for _, x := range []api.Bounds{a, b} {
			leq, e := bounds.Leq(both, x)
			same(t, name("Leq", both), leq, true)
			same(t, name("error of Leq", both), e, api.OK)
		}
		c := random(r, n, -3, 3, 2)
		first, _ := bounds.Leq(c, a)
		second, _ := bounds.Leq(c, b)
		leq, e := bounds.Leq(c, both)
		same(t, name("Leq", c), leq, first && second)
		same(t, name("error of Leq", c), e, api.OK)
		less, _ := bounds.Meet(both, c)
		leq, e = bounds.Leq(less, both)
		same(t, name("Leq", less), leq, true)
		same(t, name("error of Leq", less), e, api.OK)
	}
}

func TestForgottenTimesAreFree(t *testing.T) {
	for _, b := range many() {
		for i := 1; i <= b.N; i += 1 + b.N/4 {
			c, e := bounds.Forget(b, i)
			if e != api.OK {
				same(t, name("error of Forget", b, i), e, api.ErrConflict)
				continue
			}
			what := name("Forget", b, i)
			for j := range b.N + 1 {
				low, high, e := bounds.Extent(c, j)
				same(t, what, e, api.OK)
				expected := [2]int{none, none}
				if j != i {
					expected[0], expected[1], _ = bounds.Extent(b, j)
				}
				same(t, what, [2]int{low, high}, expected)
			}
			closed, _, ok, e := bounds.Close(c)
			expect(t, what, closed, e, c, api.OK)
			same(t, what, ok, true)
		}
	}
}

func TestDifferencesRemainBehindShift(t *testing.T) {
	for _, b := range many() {
		closed, _, ok, _ := bounds.Close(b)
		for i := 1; ok && i <= b.N; i += 1 + b.N/4 {
			c, e := bounds.Shift(b, i)
			what := name("Shift", b, i)
			same(t, "error of "+what, e, api.OK)
			same(t, what, c.N, b.N-1)
			others := slices.Delete(slices.Concat([]int{i}, indices(b.N)), i, i+1)
			for j, x := range others {
				for k, y := range others {
					same(t, what, c.Most[j][k], closed.Most[x][y])
				}
			}
		}
	}
}

// indices returns the numbers from 1 to n.
func indices(n int) []int {
	var l []int
	for i := range n {
		l = append(l, i+1)
	}
	return l
}

// P1, and the rules of all layers about memory

func TestArgumentsAndResultsAreNotShared(t *testing.T) {
	b, other, cycle, times := example(), open(2), []int{1, 2}, []int{200, 300}
	call := func() []api.Bounds {
		fresh, _ := bounds.New(2)
		added, _ := bounds.Add(b, 0, 1, 400)
		grown, _ := bounds.Grow(b, span(1, 2))
		met, _ := bounds.Meet(b, other)
		closed, _, _, _ := bounds.Close(b)
		forgotten, _ := bounds.Forget(b, 1)
		shifted, _ := bounds.Shift(b, 1)
		witness, _ := bounds.Witness(b)
		bounds.Verify(b, cycle)
		bounds.Holds(b, times)
		bounds.Leq(b, other)
		return []api.Bounds{fresh, added, grown, met, closed, forgotten, shifted, {Most: [][]int{witness}}}
	}
	// What is written to one row, and behind its end, is seen in no other one.
	var kept []api.Bounds
	for _, x := range call() {
		kept = append(kept, copied(x))
		for i, row := range x.Most {
			whole := row[:cap(row)]
			for k := range whole {
				whole[k] = -7
			}
			for j := range x.Most {
				if j > i {
					same(t, "row", slices.Equal(x.Most[j], kept[len(kept)-1].Most[j]), true)
				}
			}
		}
	}
	same(t, "bounds", slices.EqualFunc(call(), kept, equal), true)
	expect(t, "argument", b, api.OK, example(), api.OK)
	expect(t, "argument", other, api.OK, open(2), api.OK)
	same(t, "lists", slices.Equal(cycle, []int{1, 2}) && slices.Equal(times, []int{200, 300}), true)
}

func TestContradictionsKeepTheirArgument(t *testing.T) {
	b := contradiction()
	_, cycle, _, _ := bounds.Close(b)
	expect(t, "argument", b, api.OK, contradiction(), api.OK)
	for i := range cycle[:cap(cycle)] {
		cycle[:cap(cycle)][i] = 99
	}
	_, again, _, _ := bounds.Close(b)
	proves, e := bounds.Verify(b, again)
	same(t, "Verify", proves, true)
	same(t, "error of Verify", e, api.OK)
}
