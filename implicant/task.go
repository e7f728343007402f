package implicant

import (
	"slices"

	"pneumatic/api"
	"pneumatic/truth"
)

// Task asks for a form that is true at the points of On, and may be true at those of Free.
type Task struct{ On, Free api.Table }

// CheckTask returns OK for tasks.
func CheckTask(x Task) api.Errno {
	both, e := truth.And(x.On, x.Free)
	if e != api.OK {
		return e
	}
	if both.Bits != 0 {
		return api.ErrConflict
	}
	return api.OK
}

// Implies reports whether a cube is an implicant of a task.
func Implies(x Task, c api.Cube) (bool, api.Errno) {
	if e := CheckTask(x); e != api.OK {
		return false, e
	}
	if e := Check(x.On.N, c); e != api.OK {
		return false, e
	}
	return x.implies(c), api.OK
}

// Primes returns the prime implicants.
func Primes(x Task) ([]api.Cube, api.Errno) {
	if e := CheckTask(x); e != api.OK {
		return nil, e
	}
	var l []api.Cube
	for c := range cubes(x.On.N) {
		if x.isPrime(c) {
			l = append(l, c)
		}
	}
	slices.SortFunc(l, order)
	return l, api.OK
}

// Essential returns the indices of the essential ones.
func Essential(x Task) ([]int, api.Errno) {
	primes, e := Primes(x)
	if e != api.OK {
		return nil, e
	}
	var once, again uint64
	for _, c := range primes {
		points := table(x.On.N, c).Bits
		again |= once & points
		once |= points
	}
	var l []int
	for i, c := range primes {
		if x.On.Bits&^again&table(x.On.N, c).Bits != 0 {
			l = append(l, i)
		}
	}
	return l, api.OK
}

// implies reports whether all points of a cube are On or Free.
func (x Task) implies(c api.Cube) bool {
	return table(x.On.N, c).Bits&^(x.On.Bits|x.Free.Bits) == 0
}

// isPrime reports whether a cube is a prime implicant. If it is inside another implicant, then it has a condition without which it is still an implicant.
func (x Task) isPrime(c api.Cube) bool {
	if table(x.On.N, c).Bits&x.On.Bits == 0 || !x.implies(c) {
		return false
	}
	for i := range x.On.N {
		if wider := without(c, 1<<i); wider != c && x.implies(wider) {
			return false
		}
	}
	return true
}
