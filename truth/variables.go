package truth

import "pneumatic/api"

// Cofactor returns the function with a variable fixed to a value.
func Cofactor(t api.Table, i int, value bool) (api.Table, api.Errno) {
	if e := checkVariable(t, i); e != api.OK {
		return api.Table{}, e
	}
	low, high := cofactors(t, i)
	if value {
		return api.Table{N: t.N, Bits: high}, api.OK
	}
	return api.Table{N: t.N, Bits: low}, api.OK
}

// Depends returns the variables on which a function depends.
func Depends(t api.Table) ([]int, api.Errno) {
	if e := Check(t); e != api.OK {
		return nil, e
	}
	var l []int
	for i := range t.N {
		if low, high := cofactors(t, i); low != high {
			l = append(l, i)
		}
	}
	return l, api.OK
}

// Unate reports whether a function never falls, and whether it never rises, when a variable becomes true.
func Unate(t api.Table, i int) (bool, bool, api.Errno) {
	if e := checkVariable(t, i); e != api.OK {
		return false, false, e
	}
	low, high := cofactors(t, i)
	return low&^high == 0, high&^low == 0, api.OK
}

// Rename returns a function with its variables renamed.
func Rename(t api.Table, order []int) (api.Table, api.Errno) {
	if e := Check(t); e != api.OK {
		return api.Table{}, e
	}
	if e := checkOrder(order, t.N); e != api.OK {
		return api.Table{}, e
	}
	renamed := api.Table{N: t.N}
	for y := range points(t.Bits) {
		x := 0
		for i, variable := range order {
			x |= y >> i & 1 << variable
		}
		renamed.Bits |= 1 << x
	}
	return renamed, api.OK
}

// checkVariable returns the error of Check, or ErrRange if there is no such variable.
func checkVariable(t api.Table, i int) api.Errno {
	if e := Check(t); e != api.OK {
		return e
	}
	if !isBelow(i, t.N) {
		return api.ErrRange
	}
	return api.OK
}

// checkOrder returns OK for lists that have each of n variables once.
func checkOrder(order []int, n int) api.Errno {
	if len(order) != n {
		return api.ErrShape
	}
	var seen [api.MaxVars]bool
	for _, variable := range order {
		if !isBelow(variable, n) {
			return api.ErrRange
		}
		if seen[variable] {
			return api.ErrTwice
		}
		seen[variable] = true
	}
	return api.OK
}
