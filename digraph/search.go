package digraph

import (
	"slices"

	"pneumatic/api"
)

// noPath is the distance where there is no path.
const noPath = -1

// neighbours returns for each vertex those to which edges lead, ascending.
func neighbours(g api.Graph) [][]int {
	next := make([][]int, g.N)
	for _, edge := range g.Edges {
		next[edge.From] = append(next[edge.From], edge.To)
	}
	for _, l := range next {
		slices.Sort(l)
	}
	return next
}

// distances returns the lengths of the shortest paths from a vertex.
func distances(next [][]int, from int) []int {
	away := slices.Repeat([]int{noPath}, len(next))
	var visit func(front []int, distance int)
	visit = func(front []int, distance int) {
		var further []int
		for _, v := range front {
			if away[v] == noPath {
				away[v] = distance
				further = append(further, next[v]...)
			}
		}
		if len(further) > 0 {
			visit(further, distance+1)
		}
	}
	visit([]int{from}, 0)
	return away
}

// descend returns the first path from a vertex to the one that nothing is left to, where left is the distance to it from each vertex.
func descend(next [][]int, left []int, from int) []int {
	path := []int{from}
	for v := from; left[v] > 0; {
		v, _ = nearest(next[v], left)
		path = append(path, v)
	}
	return path
}

// nearest returns the first of some vertices from which the least distance is left, if a path leads on from one of them.
func nearest(vertices, left []int) (int, bool) {
	best, found := 0, false
	for _, v := range vertices {
		if left[v] != noPath && (!found || left[v] < left[best]) {
			best, found = v, true
		}
	}
	return best, found
}

// order returns the vertices so that edges lead on, as far as there is no cycle in front of them.
func order(next [][]int) []int {
	// waiting has the number of edges from vertices that are not there yet.
	waiting := make([]int, len(next))
	for _, l := range next {
		for _, w := range l {
			waiting[w]++
		}
	}
	var l []int
	for v := slices.Index(waiting, 0); v >= 0; v = slices.Index(waiting, 0) {
		l = append(l, v)
		waiting[v] = -1
		for _, w := range next[v] {
			waiting[w]--
		}
	}
	return l
}

// components returns the index of the component of each vertex.
func components(g api.Graph) map[int]int {
	next, back := neighbours(g), neighbours(reversed(g))
	number := map[int]int{}
	count := 0
	for v := range g.N {
		if _, known := number[v]; known {
			continue
		}
		to, from := distances(next, v), distances(back, v)
		for w := range g.N {
			if to[w] != noPath && from[w] != noPath {
				number[w] = count
			}
		}
		count++
	}
	return number
}
