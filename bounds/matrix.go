package bounds

import (
	"slices"

	"pneumatic/api"
)

// size is the number of rows for the most times, and for t[0].
const size = api.MaxClocks + 1

// matrix has bounds about n times. They may be beyond MaxBound, but are far from None, since they are sums of few.
type matrix struct {
	n    int
	most [size][size]int
}

// free returns the matrix without bounds.
func free(n int) *matrix {
	m := &matrix{n: n}
	m.each(func(i, j int) {
		if i != j {
			m.most[i][j] = api.None
		}
	})
	return m
}

// matrixOf returns the matrix of right bounds.
func matrixOf(b api.Bounds) *matrix {
	m := &matrix{n: b.N}
	m.each(func(i, j int) { m.most[i][j] = b.Most[i][j] })
	return m
}

// each visits each pair of indices, row by row.
func (m *matrix) each(visit func(i, j int)) {
	for i := range m.n + 1 {
		for j := range m.n + 1 {
			visit(i, j)
		}
	}
}

// bounds returns the bounds of a matrix, or ErrLarge if one of them is out of its range.
func (m *matrix) bounds() (api.Bounds, api.Errno) {
	b := api.Bounds{N: m.n, Most: make([][]int, m.n+1)}
	for i := range b.Most {
		b.Most[i] = make([]int, m.n+1)
	}
	e := api.OK
	m.each(func(i, j int) {
		b.Most[i][j] = m.most[i][j]
		if !isBound(m.most[i][j]) {
			e = api.ErrLarge
		}
	})
	if e != api.OK {
		return api.Bounds{}, e
	}
	return b, api.OK
}

// lower lowers a bound to another one, if it is greater or None.
func (m *matrix) lower(i, j, most int) {
	if m.most[i][j] == api.None || most != api.None && most < m.most[i][j] {
		m.most[i][j] = most
	}
}

// close makes the bounds closed, and reports whether they do not contradict. It stops when they do, since the sums would become ever greater.
func (m *matrix) close() bool {
	for k := range m.n + 1 {
		contradict := false
		m.each(func(i, j int) {
			m.lower(i, j, sum(m.most[i][k], m.most[k][j]))
			contradict = contradict || i == j && m.most[i][i] < 0
		})
		if contradict {
			return false
		}
	}
	return true
}

// cycle returns a cycle with a negative sum, of bounds that contradict.
func (m *matrix) cycle() []int {
	// low has for each index a sum of bounds that lead there, and from the index before it.
	var low, from [size]int
	last := 0
	for range m.n + 1 {
		m.each(func(i, j int) {
			if s := sum(low[i], m.most[i][j]); s != api.None && s < low[j] {
				low[j], from[j], last = s, i, j
			}
		})
	}
	// What is lowered in the last round has more bounds before it than there are indices, so they come from a cycle.
	for range m.n + 1 {
		last = from[last]
	}
	l := []int{last}
	for i := from[last]; i != last; i = from[i] {
		l = append(l, i)
	}
	slices.Reverse(l)
	return l
}

// least returns the least value of a time of closed bounds, or None.
func (m *matrix) least(i int) int {
	if m.most[i][0] == api.None {
		return api.None
	}
	return -m.most[i][0]
}

// picked returns the bounds between some indices, the first of which becomes t[0].
func (m *matrix) picked(indices []int) *matrix {
	p := &matrix{n: len(indices) - 1}
	p.each(func(i, j int) { p.most[i][j] = m.most[indices[i]][indices[j]] })
	return p
}

// sum returns the sum of two bounds, or None if one of them is.
func sum(a, b int) int {
	if a == api.None || b == api.None {
		return api.None
	}
	return a + b
}

// isNumber reports whether a number is from -MaxBound to MaxBound.
func isNumber(k int) bool {
	return k >= -MaxBound && k <= MaxBound
}

// isBound reports whether bounds may have a number.
func isBound(k int) bool {
	return k == api.None || isNumber(k)
}
