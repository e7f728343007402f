package minimal

import (
	"math/bits"

	"pneumatic/api"
	"pneumatic/choice"
)

// Proof shows that some points are not in so many prime implicants: Points are more than these, and no two are in one; or Points is a single one, and Kids has a proof for each prime implicant with it, with one less.
type Proof struct {
	Points []int
	Kids   []Proof
}

// size returns the size of a proof, or the limit if it is at least that. A proof may have itself as a kid.
func (p Proof) size(limit int) int {
	n := 1
	for _, kid := range p.Kids {
		if n >= limit {
			return limit
		}
		n += kid.size(limit - n)
	}
	return n
}

// prove returns a proof that the points of On are not in so many prime implicants, which is true.
func (p *problem) prove(most int) (Proof, api.Errno) {
	search, size, e := p.search(), 0, api.OK
	var build func(covered tally, most int) Proof
	build = func(covered tally, most int) Proof {
		var apart []int
		left := covered.open(p.on)
		if size++; size > api.MaxFound {
			e = api.ErrLimit
		}
		if e == api.OK {
			apart, e = search.Apart(choice.Set{left})
		}
		if e != api.OK {
			return Proof{}
		}
		if len(apart) > most {
			return Proof{Points: apart[:most+1]}
		}
		point := p.rarest(left)
		var kids []Proof
		for _, i := range p.with[point] {
			next := covered
			next.count(p.has[i], 1)
			kids = append(kids, build(next, most-1))
		}
		return Proof{Points: []int{point}, Kids: kids}
	}
	proof := build(tally{}, most)
	if e != api.OK {
		return Proof{}, e
	}
	return proof, api.OK
}

// rarest returns that of some points which is in the fewest prime implicants.
func (p *problem) rarest(left uint64) int {
	rarest := bits.TrailingZeros64(left)
	for point, with := range p.with {
		if isIn(left, point) && len(with) < len(p.with[rarest]) {
			rarest = point
		}
	}
	return rarest
}

// isProof reports whether a proof shows that the points of On that are not covered are not in so many prime implicants.
func (p *problem) isProof(proof Proof, covered tally, most int) bool {
	left := covered.open(p.on)
	if len(proof.Kids) == 0 {
		return len(proof.Points) > most && p.areApart(proof.Points, left)
	}
	if most < 1 || len(proof.Points) != 1 || !isIn(left, proof.Points[0]) {
		return false
	}
	with := p.with[proof.Points[0]]
	if len(proof.Kids) != len(with) {
		return false
	}
	for k, i := range with {
		next := covered
		next.count(p.has[i], 1)
		if !p.isProof(proof.Kids[k], next, most-1) {
			return false
		}
	}
	return true
}

// areApart reports whether points are some of those that are left, no one twice, and no two in one prime implicant.
func (p *problem) areApart(points []int, left uint64) bool {
	for _, point := range points {
		if !isIn(left, point) {
			return false
		}
		for _, i := range p.with[point] {
			left &^= p.has[i]
		}
	}
	return true
}

// isIn reports whether a number is one of some points.
func isIn(points uint64, point int) bool {
	return point >= 0 && points>>point&1 == 1
}
