package setcover

import "pneumatic/api"

// maxElements is the number of elements for which a set has bits.
const maxElements = 64

// all returns the set of all elements of a family.
func (f Family) all() uint64 {
	return ^uint64(0) >> (maxElements - f.N)
}

// chosen returns the sets of a choice.
func (f Family) chosen(choice []int) []uint64 {
	var l []uint64
	for _, i := range choice {
		l = append(l, f.Sets[i])
	}
	return l
}

// counted returns the elements that some of the sets have, and those that several of them have.
func counted(sets []uint64) (some, several uint64) {
	for _, set := range sets {
		several |= some & set
		some |= set
	}
	return some, several
}

// checkChoice returns the error of a family, or of a choice of its sets.
func checkChoice(f Family, choice []int) api.Errno {
	if e := Check(f); e != api.OK {
		return e
	}
	return checkAscending(choice, len(f.Sets))
}

// checkAscending returns OK for lists of numbers from 0 to n - 1 in ascending order, each once.
func checkAscending(l []int, n int) api.Errno {
	for i, k := range l {
		if k < 0 || k >= n {
			return api.ErrRange
		}
		if i > 0 && k <= l[i-1] {
			return api.ErrOrder
		}
	}
	return api.OK
}
