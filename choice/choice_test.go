package choice_test

import (
	"math/rand"
	"slices"
	"testing"

	"pneumatic/api"
	"pneumatic/choice"
)

func same[T comparable](t *testing.T, what string, got, expected T) {
	t.Helper()
	if got != expected {
		t.Errorf("%s: %v instead of %v", what, got, expected)
	}
}

func sameList(t *testing.T, what string, got, expected []int) {
	t.Helper()
	if !slices.Equal(got, expected) {
		t.Errorf("%s: %v instead of %v", what, got, expected)
	}
}

func elements(s choice.Set) []int { return slices.Collect(s.All()) }

func TestSetsAreListsOfElements(t *testing.T) {
	r := rand.New(rand.NewSource(1))
	for range 500 {
		var a, b [choice.Elements]bool
		var s, u choice.Set
		for range r.Intn(40) {
			k, l := r.Intn(choice.Elements), r.Intn(choice.Elements)
			a[k], b[l] = true, true
			s, u = s.Or(choice.Of(k)), u.Or(choice.Of(l, k, l))
			b[k] = true
		}
		if r.Intn(2) == 0 {
			k := r.Intn(choice.Elements)
			a[k] = true
			s = s.Or(choice.Of(k))
		}
		var inA, inBoth, inEither, inAAlone []int
		for k := range choice.Elements {
			same(t, "Has", s.Has(k), a[k])
			if a[k] {
				inA = append(inA, k)
			}
			if a[k] && b[k] {
				inBoth = append(inBoth, k)
			}
			if a[k] || b[k] {
				inEither = append(inEither, k)
			}
			if a[k] && !b[k] {
				inAAlone = append(inAAlone, k)
			}
		}
		sameList(t, "All", elements(s), inA)
		sameList(t, "And", elements(s.And(u)), inBoth)
		sameList(t, "Or", elements(s.Or(u)), inEither)
		sameList(t, "Without", elements(s.Without(u)), inAAlone)
		same(t, "Size", s.Size(), len(inA))
		same(t, "IsEmpty", s.IsEmpty(), len(inA) == 0)
		for k := range s.All() {
			same(t, "first element", k, inA[0])
			break
		}
	}
}

// family has sets that are chosen at random, with few weights, so that many choices are as good as others.
type family struct {
	sets    []choice.Set
	weights []int
	all     choice.Set
}

func families() []family {
	r := rand.New(rand.NewSource(2))
	var l []family
	for range 1500 {
		var f family
		// Elements are far apart, in several words.
		n, far := 1+r.Intn(9), 1+r.Intn(50)
		for range r.Intn(9) {
			var s choice.Set
			for k := range n {
				if r.Intn(3) == 0 {
					s = s.Or(choice.Of(k * far))
				}
			}
			f.sets, f.weights = append(f.sets, s), append(f.weights, r.Intn(3))
		}
		for k := range n {
			if r.Intn(10) > 0 {
				f.all = f.all.Or(choice.Of(k * far))
			}
		}
		l = append(l, f)
	}
	return l
}

// picked returns the elements of a list whose bits are set.
func picked[T any](l []T, mask int) []T {
	var p []T
	for i, x := range l {
		if mask>>i&1 == 1 {
			p = append(p, x)
		}
	}
	return p
}

// cover goes through all choices.
func (f family) cover() ([]int, bool) {
	var best []int
	weight, found := 0, false
	var indices []int
	for i := range f.sets {
		indices = append(indices, i)
	}
	for mask := range 1 << len(f.sets) {
		var union choice.Set
		sum := 0
		for _, i := range picked(indices, mask) {
			union, sum = union.Or(f.sets[i]), sum+f.weights[i]
		}
		if !f.all.Without(union).IsEmpty() {
			continue
		}
		l := picked(indices, mask)
		less := len(l) < len(best) || len(l) == len(best) && (sum < weight || sum == weight && slices.Compare(l, best) < 0)
		if !found || less {
			best, weight, found = l, sum, true
		}
	}
	return best, found
}

// apart goes through all lists of elements.
func (f family) apart() []int {
	var best []int
	all := elements(f.all)
	for mask := range 1 << len(all) {
		l := picked(all, mask)
		free := true
		for _, s := range f.sets {
			free = free && s.And(choice.Of(l...)).Size() < 2
		}
		if free && (len(l) > len(best) || len(l) == len(best) && slices.Compare(l, best) < 0) {
			best = l
		}
	}
	return best
}

func TestCoverIsTheBestChoice(t *testing.T) {
	none := 0
	for _, f := range families() {
		l, e := choice.New(choice.Elements, f.sets, f.weights, 1<<20).Cover(f.all)
		expected, found := f.cover()
		sameList(t, "Cover", l, expected)
		if found {
			same(t, "error of Cover", e, api.OK)
		} else {
			same(t, "error of Cover", e, api.ErrNone)
			none++
		}
	}
	if none < 100 || none > 1400 {
		t.Errorf("%d families have no cover", none)
	}
}

func TestApartIsTheFirstOfTheGreatestLists(t *testing.T) {
	for _, f := range families() {
		l, e := choice.New(choice.Elements, f.sets, f.weights, 1<<20).Apart(f.all)
		sameList(t, "Apart", l, f.apart())
		same(t, "error of Apart", e, api.OK)
	}
}

func TestStepsSuffice(t *testing.T) {
	for _, f := range families() {
		l, e := choice.New(choice.Elements, f.sets, f.weights, 2<<len(f.sets)).Cover(f.all)
		expected, _ := f.cover()
		sameList(t, "Cover", l, expected)
		same(t, "end of Cover", e != api.ErrLimit, true)
		l, e = choice.New(choice.Elements, f.sets, f.weights, 1<<f.all.Size()+1).Apart(f.all)
		sameList(t, "Apart", l, f.apart())
		same(t, "error of Apart", e, api.OK)
	}
}

func TestSearchesEndWithTheirSteps(t *testing.T) {
	var sets []choice.Set
	var weights []int
	for k := range 40 {
		sets = append(sets, choice.Of(k, (k+1)%40), choice.Of(k, (k+7)%40), choice.Of(k, (k+13)%40))
		weights = append(weights, 0, 0, 0)
	}
	var all choice.Set
	for _, s := range sets {
		all = all.Or(s)
	}
	for _, steps := range []int{1, 2, 5} {
		l, e := choice.New(40, sets, weights, steps).Cover(all)
		sameList(t, "Cover", l, nil)
		same(t, "error of Cover", e, api.ErrLimit)
		l, e = choice.New(40, sets, weights, steps).Apart(all)
		sameList(t, "Apart", l, nil)
		same(t, "error of Apart", e, api.ErrLimit)
	}
	// What one search has used up another one does not have.
	s := choice.New(40, sets, weights, 5)
	_, e := s.Apart(all)
	same(t, "error of Apart", e, api.ErrLimit)
	_, e = s.Apart(choice.Of(0))
	same(t, "error of Apart after it", e, api.ErrLimit)
}
