package minimal

import (
	"math/bits"

	"pneumatic/api"
	"pneumatic/choice"
	"pneumatic/implicant"
)

// steps is how long a search may be. Tasks of at most 4 variables have at most 13 prime implicants, and need far fewer.
const steps = 1 << 17

// problem is to choose prime implicants that have all points of On.
type problem struct {
	on     uint64
	primes []api.Cube
	// has has the points of each prime implicant, and with has the prime implicants with each point.
	has  []uint64
	with [1 << api.MaxVars][]int
}

// newProblem returns the problem of a task, or the error of the task.
func newProblem(x implicant.Task) (*problem, api.Errno) {
	primes, e := implicant.Primes(x)
	if e != api.OK {
		return nil, e
	}
	p := &problem{on: x.On.Bits, primes: primes}
	for i, c := range primes {
		points := pointsOf(x.On.N, c)
		p.has = append(p.has, points)
		for point := range p.with {
			if isIn(points, point) {
				p.with[point] = append(p.with[point], i)
			}
		}
	}
	return p, api.OK
}

// search returns a search for prime implicants that weigh as much as they have literals.
func (p *problem) search() *choice.Search {
	var sets []choice.Set
	var weights []int
	for i, c := range p.primes {
		sets = append(sets, choice.Set{p.has[i]})
		weights = append(weights, bits.OnesCount(c.Care))
	}
	return choice.New(len(p.with), sets, weights, steps)
}

// form returns the least form.
func (p *problem) form() ([]api.Cube, api.Errno) {
	indices, e := p.search().Cover(choice.Set{p.on})
	if e != api.OK {
		return nil, e
	}
	var form []api.Cube
	for _, i := range indices {
		form = append(form, p.primes[i])
	}
	return form, api.OK
}
