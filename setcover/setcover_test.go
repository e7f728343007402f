package setcover_test

import (
	"math"
	"math/bits"
	"math/rand"
	"slices"
	"strconv"
	"testing"

	"pneumatic/api"
	"pneumatic/setcover"
)

func same[T comparable](t *testing.T, what string, got, expected T) {
	t.Helper()
	if got != expected {
		t.Errorf("%s: %v instead of %v", what, got, expected)
	}
}

// expect compares a list and an error with those that are expected.
func expect(t *testing.T, what string, l []int, e api.Errno, expected []int, f api.Errno) {
	t.Helper()
	if !slices.Equal(l, expected) {
		t.Errorf("%s: %v instead of %v", what, l, expected)
	}
	same(t, "error of "+what, e, f)
}

// of returns the family of n elements with some sets.
func of(n int, sets ...uint64) setcover.Family {
	return setcover.Family{N: n, Sets: sets}
}

// set returns the set of some elements.
func set(elements ...int) uint64 {
	var word uint64
	for _, k := range elements {
		word |= 1 << k
	}
	return word
}

// first has the sets of the first example of the chapter.
func first() setcover.Family {
	return of(5, set(0, 1, 2), set(2, 3), set(0, 3, 4), set(1, 4))
}

// second has those of the second example.
func second() setcover.Family {
	return of(5, append(first().Sets, set(3, 4))...)
}

// name returns the name of a call with a family.
func name(function string, f setcover.Family) string {
	function += " " + strconv.Itoa(f.N)
	for _, word := range f.Sets {
		function += " " + strconv.FormatUint(word, 16)
	}
	return function
}

// nameOf returns the name of a call with a family and a list.
func nameOf(function string, f setcover.Family, l []int) string {
	function = name(function, f) + " with"
	for _, k := range l {
		function += " " + strconv.Itoa(k)
	}
	return function
}

// smallFamilies returns all families of up to 2 elements with up to 4 sets, and of 3 elements with up to 3 sets.
func smallFamilies() []setcover.Family {
	var l []setcover.Family
	var add func(f setcover.Family, most int)
	add = func(f setcover.Family, most int) {
		l = append(l, f)
		if len(f.Sets) == most {
			return
		}
		for word := range uint64(1) << f.N {
			add(of(f.N, append(slices.Clone(f.Sets), word)...), most)
		}
	}
	for n, most := range []int{4, 4, 4, 3} {
		add(of(n), most)
	}
	return l
}

// someFamilies returns families that are chosen at random: up to 10 sets of up to 9 elements, some of them far apart.
func someFamilies() []setcover.Family {
	r := rand.New(rand.NewSource(9))
	l := []setcover.Family{first(), second()}
	for range 600 {
		n, dense := 1+r.Intn(9), 2+r.Intn(4)
		f := of(n)
		for range r.Intn(11) {
			var word uint64
			for k := range n {
				if r.Intn(dense) == 0 {
					word |= 1 << k
				}
			}
			f.Sets = append(f.Sets, word)
		}
		l = append(l, f)
		if len(f.Sets) > 0 {
			l = append(l, spread(f))
		}
	}
	return l
}

// spread returns a family of 64 elements, in which a set of it has all elements that the family does not have.
func spread(f setcover.Family) setcover.Family {
	wide := of(64)
	for i, word := range f.Sets {
		var far uint64
		for k := range f.N {
			far |= word >> k & 1 << (7 * k)
		}
		if i == len(f.Sets)/2 {
			for k := range 64 {
				if k%7 != 0 || k/7 >= f.N {
					far |= 1 << k
				}
			}
		}
		wide.Sets = append(wide.Sets, far)
	}
	return wide
}

func families() []setcover.Family {
	return append(smallFamilies(), someFamilies()...)
}

// lists returns all ascending lists of numbers below n.
func lists(n int) [][]int {
	var l [][]int
	for mask := range 1 << n {
		var list []int
		for k := range n {
			if mask>>k&1 == 1 {
				list = append(list, k)
			}
		}
		l = append(l, list)
	}
	return l
}

// counts returns for each element how many sets of a choice have it.
func counts(f setcover.Family, choice []int) []int {
	l := make([]int, f.N)
	for _, i := range choice {
		for k := range f.N {
			l[k] += int(f.Sets[i] >> k & 1)
		}
	}
	return l
}

// isCover and isExact are those of the definition.
func isCover(f setcover.Family, choice []int) bool {
	return !slices.Contains(counts(f, choice), 0)
}

func isExact(f setcover.Family, choice []int) bool {
	return !slices.ContainsFunc(counts(f, choice), func(n int) bool { return n != 1 })
}

// isSpare reports whether a cover remains one without its set i.
func isSpare(f setcover.Family, choice []int, i int) bool {
	return isCover(f, slices.DeleteFunc(slices.Clone(choice), func(j int) bool { return j == i }))
}

func areApart(f setcover.Family, elements []int) bool {
	for _, word := range f.Sets {
		if bits.OnesCount64(word&set(elements...)) > 1 {
			return false
		}
	}
	return true
}

func isBefore(a, b []int) bool {
	return len(a) < len(b) || len(a) == len(b) && slices.Compare(a, b) < 0
}

// solution has what the definitions say of a family.
type solution struct {
	covers, exact [][]int
	// pure is the number of exact covers without empty sets.
	pure int
}

func solutionOf(f setcover.Family) solution {
	var s solution
	for _, choice := range lists(len(f.Sets)) {
		if isCover(f, choice) {
			s.covers = append(s.covers, choice)
		}
		if isExact(f, choice) {
			s.exact = append(s.exact, choice)
			if !slices.ContainsFunc(choice, func(i int) bool { return f.Sets[i] == 0 }) {
				s.pure++
			}
		}
	}
	return s
}

// firstOf returns the first one of some choices, and the error if there is none.
func firstOf(l [][]int) ([]int, api.Errno) {
	if len(l) == 0 {
		return nil, api.ErrNone
	}
	best := l[0]
	for _, choice := range l {
		if isBefore(choice, best) {
			best = choice
		}
	}
	return best, api.OK
}

// flawed is a family with its error.
type flawed struct {
	f setcover.Family
	e api.Errno
}

func flawedFamilies() []flawed {
	const full = math.MaxUint64
	many := make([]uint64, 65)
	outside := make([]uint64, 65)
	outside[0] = 2
	return []flawed{
		{of(-1), api.ErrRange}, {of(65), api.ErrRange}, {of(math.MinInt), api.ErrRange}, {of(math.MaxInt), api.ErrRange}, {of(api.None), api.ErrRange}, {of(128, full), api.ErrRange}, {of(-1, 1), api.ErrRange}, {of(-64, 0), api.ErrRange}, {of(65, many...), api.ErrRange}, {of(-1, many...), api.ErrRange},
		{of(0, many...), api.ErrMany}, {of(64, many...), api.ErrMany}, {of(1, outside...), api.ErrMany}, {of(3, make([]uint64, 5000)...), api.ErrMany},
		{of(0, 1), api.ErrRange}, {of(0, 0, full), api.ErrRange}, {of(1, 1, 2), api.ErrRange}, {of(5, 31, 32), api.ErrRange}, {of(63, 1<<63), api.ErrRange}, {of(63, full), api.ErrRange}, {of(1, outside[:64]...), api.ErrRange},
	}
}

func TestErrorsOfFamilies(t *testing.T) {
	for _, x := range flawedFamilies() {
		same(t, name("Check", x.f), setcover.Check(x.f), x.e)
		for _, list := range [][]int{nil, {0}, {-1}, {1, 0}, {0, 0}} {
			ok, e := setcover.Covers(x.f, list)
			same(t, name("Covers", x.f), ok, false)
			same(t, name("error of Covers", x.f), e, x.e)
			spare, e := setcover.Spare(x.f, list)
			expect(t, name("Spare", x.f), spare, e, nil, x.e)
			ok, e = setcover.Apart(x.f, list)
			same(t, name("Apart", x.f), ok, false)
			same(t, name("error of Apart", x.f), e, x.e)
		}
		l, e := setcover.Fewest(x.f)
		expect(t, name("Fewest", x.f), l, e, nil, x.e)
		l, n, e := setcover.Exact(x.f)
		expect(t, name("Exact", x.f), l, e, nil, x.e)
		same(t, name("number of Exact", x.f), n, 0)
		l, e = setcover.Bound(x.f)
		expect(t, name("Bound", x.f), l, e, nil, x.e)
		l, e = setcover.Greedy(x.f)
		expect(t, name("Greedy", x.f), l, e, nil, x.e)
		l, e = setcover.Needed(x.f)
		expect(t, name("Needed", x.f), l, e, nil, x.e)
	}
}

// P9.1

func TestCheck(t *testing.T) {
	for n := range 65 {
		last := uint64(math.MaxUint64) >> (64 - n)
		same(t, "Check", setcover.Check(of(n)), api.OK)
		same(t, "Check", setcover.Check(of(n, 0, last, last/3, last)), api.OK)
		same(t, "Check", setcover.Check(of(n, slices.Repeat([]uint64{last}, 64)...)), api.OK)
		for k := range 64 {
			expected := api.OK
			if k >= n {
				expected = api.ErrRange
			}
			same(t, "Check", setcover.Check(of(n, 0, 1<<k)), expected)
		}
	}
}

func TestCovers(t *testing.T) {
	for _, f := range families() {
		for _, choice := range lists(len(f.Sets)) {
			ok, e := setcover.Covers(f, choice)
			same(t, nameOf("Covers", f, choice), ok, isCover(f, choice))
			same(t, nameOf("error of Covers", f, choice), e, api.OK)
		}
	}
}

func TestSpare(t *testing.T) {
	for _, f := range families() {
		for _, choice := range lists(len(f.Sets)) {
			var expected []int
			state := api.OK
			if !isCover(f, choice) {
				state = api.ErrState
			} else {
				for _, i := range choice {
					if isSpare(f, choice, i) {
						expected = append(expected, i)
					}
				}
			}
			l, e := setcover.Spare(f, choice)
			expect(t, nameOf("Spare", f, choice), l, e, expected, state)
		}
	}
	// Two equal sets are both spare, and an empty one always.
	l, e := setcover.Spare(of(2, 0, 3, 0, 3, 1), []int{1, 2, 3})
	expect(t, "Spare", l, e, []int{1, 2, 3}, api.OK)
	l, e = setcover.Spare(of(2, 0, 3, 0, 3, 1), []int{0, 3, 4})
	expect(t, "Spare", l, e, []int{0, 4}, api.OK)
	l, e = setcover.Spare(of(0, 0, 0), []int{1})
	expect(t, "Spare", l, e, []int{1}, api.OK)
}

func TestApart(t *testing.T) {
	for _, f := range families() {
		for _, l := range lists(min(f.N, 9)) {
			for _, far := range []int{1, 7} {
				elements := slices.Clone(l)
				for i := range elements {
					elements[i] *= far
				}
				if f.N < 64 && far > 1 {
					continue
				}
				ok, e := setcover.Apart(f, elements)
				same(t, nameOf("Apart", f, elements), ok, areApart(f, elements))
				same(t, nameOf("error of Apart", f, elements), e, api.OK)
			}
		}
	}
	for _, x := range []struct {
		l  []int
		ok bool
	}{{[]int{1, 3}, true}, {[]int{0, 1}, false}, {[]int{0, 2}, false}, {[]int{2, 4}, true}, {[]int{1, 2, 4}, false}, {nil, true}, {[]int{4}, true}} {
		ok, e := setcover.Apart(first(), x.l)
		same(t, nameOf("Apart", first(), x.l), ok, x.ok)
		same(t, "error of Apart", e, api.OK)
	}
}

// flawedLists has lists of numbers below 4 with their errors.
func flawedLists() map[api.Errno][][]int {
	return map[api.Errno][][]int{
		api.ErrRange: {{-1}, {4}, {math.MinInt}, {math.MaxInt}, {api.None}, {64}, {0, 4}, {0, 1, -1}, {1, -1}, {4, 0}, {-1, 0}, {3, 4}, {5, 5}, {0, 1, 2, 3, 4}, {-1, -1}, {0, 2, 5, 5}},
		api.ErrOrder: {{0, 0}, {1, 0}, {3, 3}, {0, 2, 1}, {0, 1, 2, 3, 3}, {0, 1, 2, 3, 0}, {0, 0, -1}, {2, 1, 4}, {3, 0, 99}, make([]int, 300)},
	}
}

func TestErrorsOfLists(t *testing.T) {
	family := of(4, 3, 6, 12, 9)
	for expected, l := range flawedLists() {
		for _, list := range l {
			ok, e := setcover.Covers(family, list)
			same(t, nameOf("Covers", family, list), ok, false)
			same(t, nameOf("error of Covers", family, list), e, expected)
			spare, e := setcover.Spare(family, list)
			expect(t, nameOf("Spare", family, list), spare, e, nil, expected)
			ok, e = setcover.Apart(family, list)
			same(t, nameOf("Apart", family, list), ok, false)
			same(t, nameOf("error of Apart", family, list), e, expected)
		}
	}
	// Indices are those of sets, and elements those of the family.
	few := of(3, 7)
	ok, e := setcover.Covers(few, []int{1})
	same(t, "Covers", ok, false)
	same(t, "error of Covers", e, api.ErrRange)
	_, e = setcover.Apart(few, []int{2})
	same(t, "error of Apart", e, api.OK)
	_, e = setcover.Apart(few, []int{3})
	same(t, "error of Apart", e, api.ErrRange)
	more := of(1, 1, 1, 0)
	_, e = setcover.Covers(more, []int{2})
	same(t, "error of Covers", e, api.OK)
	_, e = setcover.Apart(more, []int{1})
	same(t, "error of Apart", e, api.ErrRange)
}

// greedy follows the definition, step by step.
func greedy(f setcover.Family) ([]int, api.Errno) {
	var l []int
	for !isCover(f, l) {
		before := counts(f, l)
		best, most := -1, 0
		for i := range f.Sets {
			news := 0
			for k, n := range counts(f, []int{i}) {
				if n == 1 && before[k] == 0 {
					news++
				}
			}
			if news > most {
				best, most = i, news
			}
		}
		if best < 0 {
			return nil, api.ErrNone
		}
		l = append(l, best)
	}
	slices.Sort(l)
	return l, api.OK
}

func TestGreedy(t *testing.T) {
	for _, f := range families() {
		l, e := setcover.Greedy(f)
		expected, none := greedy(f)
		expect(t, name("Greedy", f), l, e, expected, none)
	}
	l, e := setcover.Greedy(first())
	expect(t, "Greedy", l, e, []int{0, 2}, api.OK)
	// The greatest set is the last one, and the choice is in order all the same.
	l, e = setcover.Greedy(of(6, set(0, 1, 2), set(3, 4, 5), set(1, 2, 3, 4)))
	expect(t, "Greedy", l, e, []int{0, 1, 2}, api.OK)
	l, e = setcover.Greedy(of(3, set(0), set(0, 2), set(0, 2)))
	expect(t, "Greedy", l, e, nil, api.ErrNone)
	l, e = setcover.Greedy(of(0, 0))
	expect(t, "Greedy", l, e, nil, api.OK)
}
