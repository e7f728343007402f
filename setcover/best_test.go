package setcover_test

import (
	"math"
	"math/rand"
	"slices"
	"testing"

	"pneumatic/api"
	"pneumatic/setcover"
)

// P9.2

// compare compares all that is searched in a family with the definitions.
func compare(t *testing.T, f setcover.Family) {
	t.Helper()
	s := solutionOf(f)
	l, e := setcover.Fewest(f)
	expected, none := firstOf(s.covers)
	expect(t, name("Fewest", f), l, e, expected, none)
	l, n, e := setcover.Exact(f)
	expected, none = firstOf(s.exact)
	expect(t, name("Exact", f), l, e, expected, none)
	same(t, name("number of Exact", f), n, s.pure)
	l, e = setcover.Needed(f)
	if len(s.covers) == 0 {
		expect(t, name("Needed", f), l, e, nil, api.ErrNone)
		return
	}
	var needed []int
	for i := range f.Sets {
		if !slices.ContainsFunc(s.covers, func(choice []int) bool { return !slices.Contains(choice, i) }) {
			needed = append(needed, i)
		}
	}
	expect(t, name("Needed", f), l, e, needed, api.OK)
}

func TestFirstCovers(t *testing.T) {
	for _, f := range families() {
		compare(t, f)
	}
	l, e := setcover.Fewest(first())
	expect(t, "Fewest", l, e, []int{0, 2}, api.OK)
	l, n, e := setcover.Exact(first())
	expect(t, "Exact", l, e, nil, api.ErrNone)
	same(t, "number of Exact", n, 0)
	l, n, e = setcover.Exact(second())
	expect(t, "Exact", l, e, []int{0, 4}, api.OK)
	same(t, "number of Exact", n, 1)
	l, e = setcover.Needed(first())
	expect(t, "Needed", l, e, nil, api.OK)
	l, e = setcover.Needed(of(4, set(0, 1), set(1, 2), set(2, 3), 0, set(1)))
	expect(t, "Needed", l, e, []int{0, 2}, api.OK)
}

func TestNoElements(t *testing.T) {
	for _, f := range []setcover.Family{of(0), of(0, 0), of(0, make([]uint64, 64)...)} {
		l, e := setcover.Fewest(f)
		expect(t, name("Fewest", f), l, e, nil, api.OK)
		l, n, e := setcover.Exact(f)
		expect(t, name("Exact", f), l, e, nil, api.OK)
		same(t, name("number of Exact", f), n, 1)
		l, e = setcover.Bound(f)
		expect(t, name("Bound", f), l, e, nil, api.OK)
		l, e = setcover.Greedy(f)
		expect(t, name("Greedy", f), l, e, nil, api.OK)
		l, e = setcover.Needed(f)
		expect(t, name("Needed", f), l, e, nil, api.OK)
		ok, e := setcover.Covers(f, nil)
		same(t, name("Covers", f), ok, true)
		same(t, name("error of Covers", f), e, api.OK)
	}
}

func TestExactCoversAreCountedWithoutEmptySets(t *testing.T) {
	l, n, e := setcover.Exact(of(2, 0, 1, 2, 0, 3, 0))
	expect(t, "Exact", l, e, []int{4}, api.OK)
	same(t, "number of Exact", n, 2)
	// Equal sets are different ones: each element is in one of two.
	var twins []uint64
	for k := range 8 {
		twins = append(twins, 1<<k, 1<<k)
	}
	l, n, e = setcover.Exact(of(8, twins...))
	expect(t, "Exact", l, e, []int{0, 2, 4, 6, 8, 10, 12, 14}, api.OK)
	same(t, "number of Exact", n, 256)
	// The first exact cover has fewer sets than one that begins with a lesser index.
	l, n, e = setcover.Exact(of(4, 1, 2, 4, 8, set(1, 2, 3), set(0, 2), set(1, 3)))
	expect(t, "Exact", l, e, []int{0, 4}, api.OK)
	same(t, "number of Exact", n, 5)
}

// greatest goes through all lists of elements.
func greatest(f setcover.Family) []int {
	var best []int
	for _, l := range lists(f.N) {
		if areApart(f, l) && (len(l) > len(best) || len(l) == len(best) && slices.Compare(l, best) < 0) {
			best = l
		}
	}
	return best
}

func TestBound(t *testing.T) {
	for _, f := range families() {
		if f.N > 16 {
			continue
		}
		l, e := setcover.Bound(f)
		expect(t, name("Bound", f), l, e, greatest(f), api.OK)
	}
	l, e := setcover.Bound(first())
	expect(t, "Bound", l, e, []int{1, 3}, api.OK)
	// An element in no set is apart from all others.
	l, e = setcover.Bound(of(4, set(0, 1, 3)))
	expect(t, "Bound", l, e, []int{0, 2}, api.OK)
	l, e = setcover.Bound(of(3))
	expect(t, "Bound", l, e, []int{0, 1, 2}, api.OK)
}

// hardFamilies returns families of 16 sets of 16 elements, for which no error is permitted that says that a search is too long.
func hardFamilies() []setcover.Family {
	r := rand.New(rand.NewSource(16))
	var ring, wheel, pairs, thirds, ones, twins []uint64
	for k := range 16 {
		ring = append(ring, set(k, (k+1)%16))
		wheel = append(wheel, set(k, (k+1)%16, (k+5)%16, (k+7)%16))
		pairs = append(pairs, set(k/4, 4+k%4, 8+(k/4+k)%4, 12+(k/4+2*k)%4))
		thirds = append(thirds, set(k, (k*3+1)%16, (k*5+2)%16))
		ones = append(ones, set(k))
		twins = append(twins, set(k/2, k/2+8))
	}
	l := []setcover.Family{of(16, ring...), of(16, wheel...), of(16, pairs...), of(16, thirds...), of(16, ones...), of(16, twins...), of(16, slices.Repeat([]uint64{0xFFFF}, 16)...), of(16, slices.Repeat([]uint64{0xFFFE}, 16)...), of(16, make([]uint64, 16)...)}
	for size := 2; size < 8; size++ {
		f := of(16)
		for range 16 {
			var word uint64
			for range size {
				word |= 1 << r.Intn(16)
			}
			f.Sets = append(f.Sets, word)
		}
		l = append(l, f)
	}
	return l
}

func TestSixteenSetsAreNotTooMany(t *testing.T) {
	for _, f := range hardFamilies() {
		compare(t, f)
		l, e := setcover.Bound(f)
		expect(t, name("Bound", f), l, e, greatest(f), api.OK)
	}
}

// largeFamilies returns families of many sets of many elements.
func largeFamilies() []setcover.Family {
	r := rand.New(rand.NewSource(64))
	var l []setcover.Family
	for _, n := range []int{17, 30, 63, 64} {
		for size := 1; size < 24; size += 3 {
			f := of(n)
			for range 64 - r.Intn(20) {
				var word uint64
				for range size {
					word |= 1 << r.Intn(n)
				}
				f.Sets = append(f.Sets, word)
			}
			l = append(l, f)
			// Now there is a cover.
			g := of(n, f.Sets[1:]...)
			g.Sets = append(slices.Clone(g.Sets), math.MaxUint64>>(64-n))
			l = append(l, g)
		}
	}
	return l
}

func TestLargeFamilies(t *testing.T) {
	for _, f := range largeFamilies() {
		greedy, none := setcover.Greedy(f)
		l, e := setcover.Fewest(f)
		if e == api.ErrLimit {
			expect(t, name("Fewest", f), l, e, nil, api.ErrLimit)
		} else {
			same(t, name("error of Fewest", f), e, none)
			same(t, name("cover", f), e == api.OK && !isCover(f, l) || len(l) > len(greedy), false)
		}
		exact, n, e := setcover.Exact(f)
		if e == api.OK {
			same(t, name("exact cover", f), isExact(f, exact) && n > 0, true)
		} else {
			expect(t, name("Exact", f), exact, e, nil, e)
			same(t, name("number of Exact", f), n, 0)
			same(t, name("error of Exact", f), e == api.ErrNone || e == api.ErrLimit, true)
		}
		apart, e := setcover.Bound(f)
		if e == api.ErrLimit {
			expect(t, name("Bound", f), apart, e, nil, api.ErrLimit)
		} else {
			same(t, name("Bound", f), areApart(f, apart), true)
			same(t, name("error of Bound", f), e, api.OK)
		}
	}
}

func TestSearchesEnd(t *testing.T) {
	// The exact covers are more than can be counted one by one.
	var twins []uint64
	for k := range 32 {
		twins = append(twins, 1<<k, 1<<k)
	}
	l, n, e := setcover.Exact(of(32, twins...))
	expect(t, "Exact", l, e, nil, api.ErrLimit)
	same(t, "number of Exact", n, 0)
	l, e = setcover.Fewest(of(32, twins...))
	same(t, "Fewest", e == api.ErrLimit && len(l) == 0 || e == api.OK && len(l) == 32 && isCover(of(32, twins...), l), true)
	// All elements are apart, and no set is needed for that.
	l, e = setcover.Bound(of(64))
	same(t, "Bound", e == api.ErrLimit && len(l) == 0 || e == api.OK && len(l) == 64, true)
}
