package minimal_test

import (
	"math"
	"math/rand"
	"slices"
	"strconv"
	"testing"

	"pneumatic/api"
	"pneumatic/implicant"
	"pneumatic/minimal"
)

// sizeOf returns the size of a proof, straight from the definition.
func sizeOf(p minimal.Proof) int {
	n := 1
	for _, kid := range p.Kids {
		n += sizeOf(kid)
	}
	return n
}

// proves reports whether a proof shows that the points of On that are not covered are in no so many prime implicants, straight from the definition.
func (p problem) proves(proof minimal.Proof, covered uint64, most int) bool {
	for _, point := range proof.Points {
		if point < 0 || point >= 64 || p.x.On.Bits>>point&1 == 0 || covered>>point&1 == 1 {
			return false
		}
	}
	sorted := slices.Sorted(slices.Values(proof.Points))
	distinct := len(slices.Compact(sorted)) == len(proof.Points)
	if len(proof.Points) > most && distinct && p.areApart(proof.Points) && len(proof.Kids) == 0 {
		return true
	}
	if len(proof.Points) != 1 || most < 1 {
		return false
	}
	var with []uint64
	for _, word := range p.words {
		if word>>proof.Points[0]&1 == 1 {
			with = append(with, word)
		}
	}
	if len(with) != len(proof.Kids) {
		return false
	}
	for k, kid := range proof.Kids {
		if !p.proves(kid, covered|with[k], most-1) {
			return false
		}
	}
	return true
}

// leaf returns a proof without kids.
func leaf(points ...int) minimal.Proof { return minimal.Proof{Points: points} }

// node returns a proof with one point.
func node(point int, kids ...minimal.Proof) minimal.Proof {
	return minimal.Proof{Points: []int{point}, Kids: kids}
}

// wide returns a proof with so many kids.
func wide(kids int) minimal.Proof { return node(0, make([]minimal.Proof, kids)...) }

// deep returns a proof with so many proofs above one another.
func deep(size int) minimal.Proof {
	p := leaf(0)
	for range size - 1 {
		p = node(0, p)
	}
	return p
}

// endless returns a proof that has itself among its kids.
func endless(kids int) minimal.Proof {
	p := node(0, make([]minimal.Proof, kids)...)
	for k := range p.Kids {
		p.Kids[k] = p
	}
	return p
}

// cyclic is a task whose proof needs kids: its points that are apart are fewer than the cubes of its least form.
func cyclic(t *testing.T) (problem, int) {
	t.Helper()
	for _, x := range tasks(4) {
		form, _ := minimal.Form(x)
		if apart, _ := minimal.Apart(x); len(apart) < len(form) {
			return problemOf(x), len(form)
		}
	}
	t.Fatal("no task needs a proof with kids")
	return problem{}, 0
}

// P7.1

func TestRefute(t *testing.T) {
	most := task(3, 0xe8, 0) // at least two of three: 3, 5 and 6 are apart, and 7 is in all prime implicants
	or := task(2, 14, 0)     // the prime implicants 1- and -1
	right := []struct {
		x    implicant.Task
		most int
		p    minimal.Proof
	}{
		{most, 0, leaf(3)}, {most, 0, leaf(7)}, {most, 0, leaf(3, 5)}, {most, 1, leaf(3, 5)}, {most, 1, leaf(6, 5)}, {most, 2, leaf(3, 5, 6)}, {most, 2, leaf(6, 3, 5)}, {most, 0, leaf(5, 6, 3)},
		{most, 1, node(3, leaf(5))}, {most, 1, node(3, leaf(6))}, {most, 1, node(3, leaf(5, 6))}, {most, 2, node(3, leaf(6, 5))}, {most, 2, node(3, node(5, leaf(6)))}, {most, 1, node(7, leaf(5), leaf(3), leaf(3))}, {most, 2, node(7, leaf(5, 6), leaf(3, 6), leaf(3, 5))}, {most, 2, node(7, node(6, leaf(5)), leaf(6, 3), leaf(5, 3))},
		{or, 1, leaf(1, 2)}, {or, 1, node(3, leaf(2), leaf(1))}, {or, 1, node(1, leaf(2))}, {or, 0, leaf(3)},
		{task(1, 1, 2), 0, leaf(0)}, {task(0, 1, 0), 0, leaf(0)}, {task(6, 1<<63|1, 0), 1, leaf(63, 0)}, {task(2, 9, 6), 0, leaf(3)}, {task(2, 9, 4), 0, leaf(0)},
	}
	for i, c := range right {
		same(t, "Refute "+strconv.Itoa(i), minimal.Refute(c.x, c.most, c.p), api.OK)
		same(t, "proves "+strconv.Itoa(i), problemOf(c.x).proves(c.p, 0, c.most), true)
	}
	wrong := []struct {
		x    implicant.Task
		most int
		p    minimal.Proof
	}{
		// Too few points, a point twice, points in one prime implicant, and points that are not On.
		{most, 0, leaf()}, {most, 1, leaf(3)}, {most, 2, leaf(3, 5)}, {most, 3, leaf(3, 5, 6)}, {most, 256, leaf(3, 5, 6)}, {most, 1, leaf(3, 3)}, {most, 2, leaf(3, 5, 3)}, {most, 1, leaf(3, 7)}, {most, 0, leaf(7, 5)}, {most, 0, leaf(0)}, {most, 0, leaf(3, 0)}, {most, 0, leaf(-1)}, {most, 0, leaf(8)}, {most, 0, leaf(64)}, {most, 0, leaf(67)}, {most, 0, leaf(math.MaxInt)}, {most, 0, leaf(math.MinInt)}, {most, 0, leaf(3, api.None)},
		{task(2, 9, 6), 0, leaf(1)}, {task(2, 9, 6), 0, leaf(2)}, {task(2, 9, 6), 1, leaf(0, 3)}, {task(2, 0, 6), 0, leaf(1)}, {task(2, 0, 6), 0, leaf()}, {task(2, 0, 0), 0, leaf(0)}, {task(0, 0, 1), 0, leaf(0)},
		// Kids where there must be none, too few or too many of them, in another order, and without a point or with several.
		{most, 0, node(3, leaf(5))}, {most, 0, node(3, leaf())}, {most, 1, node(3)}, {most, 1, node(3, leaf(5), leaf(5))}, {most, 1, node(7, leaf(5), leaf(3))}, {most, 1, node(7, leaf(5), leaf(3), leaf(3), leaf(3))}, {most, 1, node(7, leaf(3), leaf(3), leaf(5))}, {most, 1, minimal.Proof{Kids: []minimal.Proof{leaf(5)}}}, {most, 1, minimal.Proof{Points: []int{3, 5}, Kids: []minimal.Proof{leaf(6)}}}, {most, 1, minimal.Proof{Points: []int{3, 3}, Kids: []minimal.Proof{leaf(6)}}},
		// Kids that use a point which is covered, or prove too little.
		{most, 1, node(3, leaf(7))}, {most, 1, node(3, leaf(3))}, {most, 2, node(3, leaf(5))}, {most, 2, node(3, leaf(5, 7))}, {most, 2, node(3, node(3, leaf(6)))}, {most, 2, node(3, node(7, leaf(6), leaf(6), leaf(5)))}, {most, 3, node(3, node(5, node(6, leaf(7))))}, {most, 3, node(3, node(5, node(6, leaf())))}, {most, 1, node(0)}, {most, 1, node(0, leaf(3))}, {most, 1, node(-1, leaf(3))}, {most, 1, node(64, leaf(3))}, {most, 1, node(math.MaxInt, leaf(3))},
		// A free point need not be in a form.
		{task(2, 9, 2), 1, node(1, leaf(3), leaf(0))}, {task(1, 2, 1), 1, node(0, leaf(1))}, {or, 2, node(1, node(2, leaf(3)))},
	}
	for i, c := range wrong {
		same(t, "Refute of wrong "+strconv.Itoa(i), minimal.Refute(c.x, c.most, c.p), api.ErrProof)
		same(t, "proves of wrong "+strconv.Itoa(i), problemOf(c.x).proves(c.p, 0, c.most), false)
	}
}

func TestErrorsOfRefute(t *testing.T) {
	x := task(3, 0xe8, 0)
	large := []minimal.Proof{wide(api.MaxFound), wide(1 << 20), deep(api.MaxFound + 1), deep(40000), endless(1), endless(2), endless(300), node(3, wide(api.MaxFound-1)), node(7, wide(api.MaxFound/2), leaf(), wide(api.MaxFound/2))}
	fitting := []minimal.Proof{wide(api.MaxFound - 1), deep(api.MaxFound), node(3, wide(api.MaxFound-2)), {}, leaf(3, 5)}
	for _, most := range []int{-1, 257, math.MinInt, math.MaxInt, api.None} {
		for _, p := range append(large, fitting...) {
			same(t, "Refute of "+strconv.Itoa(most), minimal.Refute(x, most, p), api.ErrRange)
		}
	}
	for _, most := range []int{0, 1, 5, 256} {
		for _, p := range large {
			same(t, "Refute of one too large", minimal.Refute(x, most, p), api.ErrMany)
		}
		for _, p := range fitting[:4] {
			same(t, "Refute of a large one", minimal.Refute(x, most, p), api.ErrProof)
		}
	}
	same(t, "Refute of many points", minimal.Refute(x, 2, leaf(make([]int, 1<<20)...)), api.ErrProof)
}

// changed returns a proof that differs a little from another one.
func changed(r *rand.Rand, p minimal.Proof) minimal.Proof {
	p = minimal.Proof{Points: slices.Clone(p.Points), Kids: slices.Clone(p.Kids)}
	if k := len(p.Kids); k > 0 && r.Intn(3) > 0 {
		i := r.Intn(k)
		p.Kids[i] = changed(r, p.Kids[i])
		return p
	}
	switch r.Intn(5) {
	case 0:
		p.Points = append(p.Points, r.Intn(18)-1)
	case 1:
		if n := len(p.Points); n > 0 {
			p.Points[r.Intn(n)] = r.Intn(16)
		}
	case 2:
		if n := len(p.Points); n > 0 {
			p.Points = p.Points[:n-1]
		}
	case 3:
		p.Kids = append(p.Kids, leaf(r.Intn(16)))
	default:
		r.Shuffle(len(p.Kids), func(i, j int) { p.Kids[i], p.Kids[j] = p.Kids[j], p.Kids[i] })
	}
	return p
}

func TestRefuteOfChangedProofs(t *testing.T) {
	r := rand.New(rand.NewSource(76))
	found := map[api.Errno]int{}
	l := tasks(4)
	x, _ := cyclic(t)
	for range 20 {
		l = append(l, x.x)
	}
	for _, x := range l {
		p := problemOf(x)
		proof, _ := minimal.Prove(x)
		for range 60 {
			next := changed(r, proof)
			most := r.Intn(6)
			if form, _ := minimal.Form(x); r.Intn(4) > 0 && len(form) > 0 {
				most = len(form) - 1
			}
			expected := api.ErrProof
			if p.proves(next, 0, most) {
				expected = api.OK
			}
			same(t, name("Refute", x), minimal.Refute(x, most, next), expected)
			found[expected]++
			if r.Intn(2) == 0 {
				proof = next
			} else {
				proof, _ = minimal.Prove(x)
			}
		}
	}
	if found[api.OK] < 500 || found[api.ErrProof] < 500 {
		t.Errorf("proofs are right or wrong too seldom: %v", found)
	}
}

// P7.2

func TestProofsWithKids(t *testing.T) {
	p, number := cyclic(t)
	proof, e := minimal.Prove(p.x)
	same(t, "error of Prove", e, api.OK)
	same(t, "number of points", len(proof.Points), 1)
	same(t, "kids", len(proof.Kids) > 0, true)
	testProof(t, p, number)
}

// TestProofsAreNotTooLarge looks at tasks whose proofs may become larger than is permitted.
func TestProofsAreNotTooLarge(t *testing.T) {
	for _, x := range []implicant.Task{task(6, 0x7ee8e88168818117, 0x11601161668), task(6, 0xe981a11681161268, 0x1668488168818116), task(6, 0x7ee8e881e8888000, 0x116166816606880), task(6, 0x196166816686900, 0x1669699669969668)} {
		if form, e := minimal.Form(x); e == api.OK {
			testProof(t, problemOf(x), len(form))
		}
	}
}

// P1

func TestArgumentsOfAnyForm(t *testing.T) {
	r := rand.New(rand.NewSource(77))
	for range 3000 {
		table := func() api.Table { return api.Table{N: r.Intn(9) - 1, Bits: r.Uint64() >> r.Intn(64)} }
		x := implicant.Task{On: table(), Free: table()}
		if r.Intn(3) > 0 {
			x.Free = api.Table{N: x.On.N, Bits: r.Uint64() & r.Uint64() & r.Uint64() >> r.Intn(64) &^ x.On.Bits}
		}
		var form []api.Cube
		for range r.Intn(5) {
			form = append(form, api.Cube{Care: uint(r.Intn(130)), Value: uint(r.Intn(130))})
		}
		e := implicant.CheckTask(x)
		f := minimal.Verify(x, form)
		_, g := minimal.Spare(x, form)
		same(t, name("error of Spare", x), g, f)
		if e != api.OK {
			same(t, name("error of Verify", x), f, e)
		}
		if _, g = minimal.Form(x); g != api.ErrLimit {
			same(t, name("error of Form", x), g, e)
		}
		if _, g = minimal.Apart(x); g != api.ErrLimit {
			same(t, name("error of Apart", x), g, e)
		}
		_, g = minimal.Prove(x)
		if e == api.OK && x.On.Bits == 0 {
			same(t, name("error of Prove", x), g, api.ErrEmpty)
		} else if g != api.ErrLimit {
			same(t, name("error of Prove", x), g, e)
		}
	}
}

func TestArgumentsAreNotChanged(t *testing.T) {
	form := cubes("11-", "110", "1-1", "111", "-11")
	before := slices.Clone(form)
	x := task(3, 0xe8, 0)
	l, e := minimal.Spare(x, form)
	sameList(t, "Spare", l, []int{1, 3})
	same(t, "error of Spare", e, api.OK)
	least, _ := minimal.Form(x)
	least[0] = none
	again, _ := minimal.Form(x)
	sameList(t, "Form", again, cubes("11-", "1-1", "-11"))
	p := node(7, leaf(5, 6), leaf(3, 6), leaf(3, 5))
	same(t, "Refute", minimal.Refute(x, 2, p), api.OK)
	sameList(t, "points", p.Kids[1].Points, []int{3, 6})
	sameList(t, "form", form, before)
}
