package setcover_test

import (
	"math/rand"
	"slices"
	"testing"

	"pneumatic/api"
	"pneumatic/setcover"
)

// P9.3

func TestFirstCoversAreLean(t *testing.T) {
	for _, f := range append(families(), largeFamilies()...) {
		l, e := setcover.Fewest(f)
		if e != api.OK {
			continue
		}
		spare, e := setcover.Spare(f, l)
		expect(t, name("Spare", f), spare, e, nil, api.OK)
		greedy, e := setcover.Greedy(f)
		same(t, name("error of Greedy", f), e, api.OK)
		same(t, name("Greedy", f), len(l) <= len(greedy), true)
		apart, e := setcover.Bound(f)
		same(t, name("Bound", f), e == api.ErrLimit || len(apart) <= len(l), true)
		ok, _ := setcover.Apart(f, apart)
		same(t, name("Apart", f), ok, true)
		ok, _ = setcover.Covers(f, l)
		same(t, name("Covers", f), ok, true)
	}
}

func TestMoreSetsNeverNeedMore(t *testing.T) {
	r := rand.New(rand.NewSource(93))
	for _, f := range families() {
		more := of(f.N, f.Sets...)
		at := r.Intn(len(f.Sets) + 1)
		more.Sets = slices.Insert(slices.Clone(f.Sets), at, r.Uint64()&(1<<f.N-1))
		l, e := setcover.Fewest(f)
		if e != api.OK {
			continue
		}
		k, e := setcover.Fewest(more)
		same(t, name("error of Fewest", more), e, api.OK)
		same(t, name("Fewest", more), len(k) <= len(l), true)
	}
}

func TestNoCoverWithoutNeededSets(t *testing.T) {
	seen := 0
	for _, f := range families() {
		needed, _ := setcover.Needed(f)
		for _, i := range needed {
			less := of(f.N, slices.Delete(slices.Clone(f.Sets), i, i+1)...)
			l, e := setcover.Fewest(less)
			expect(t, name("Fewest", less), l, e, nil, api.ErrNone)
			l, e = setcover.Greedy(less)
			expect(t, name("Greedy", less), l, e, nil, api.ErrNone)
			l, e = setcover.Needed(less)
			expect(t, name("Needed", less), l, e, nil, api.ErrNone)
			seen++
		}
	}
	if seen < 500 {
		t.Errorf("only %d sets are needed", seen)
	}
}

func TestExactCoversHaveEachElementOnce(t *testing.T) {
	seen := 0
	for _, f := range families() {
		l, n, e := setcover.Exact(f)
		if e != api.OK {
			continue
		}
		seen++
		same(t, name("number of Exact", f), n > 0, true)
		ok, _ := setcover.Covers(f, l)
		same(t, name("Covers", f), ok, true)
		together := 0
		for _, k := range counts(f, l) {
			together += k
		}
		same(t, name("elements", f), together, f.N)
		fewest, _ := setcover.Fewest(f)
		same(t, name("Fewest", f), len(fewest) <= len(l), true)
	}
	if seen < 500 {
		t.Errorf("only %d families have exact covers", seen)
	}
}

// P1, and the rules of all layers about memory

func TestArgumentsAndResultsAreNotShared(t *testing.T) {
	f := second()
	sets := slices.Clone(f.Sets)
	choice := []int{0, 1, 2, 3, 4}
	call := func() [][]int {
		fewest, _ := setcover.Fewest(f)
		exact, _, _ := setcover.Exact(f)
		bound, _ := setcover.Bound(f)
		greedy, _ := setcover.Greedy(f)
		needed, _ := setcover.Needed(f)
		spare, _ := setcover.Spare(f, choice)
		_, _ = setcover.Covers(f, choice)
		_, _ = setcover.Apart(f, choice)
		return [][]int{fewest, exact, bound, greedy, needed, spare}
	}
	before := call()
	kept := make([][]int, len(before))
	for i, l := range before {
		kept[i] = slices.Clone(l)
		for k := range l {
			l[k] = -7
		}
	}
	after := call()
	for i := range after {
		same(t, "again", slices.Equal(after[i], kept[i]), true)
	}
	same(t, "sets", slices.Equal(f.Sets, sets), true)
	same(t, "choice", slices.Equal(choice, []int{0, 1, 2, 3, 4}), true)
}
