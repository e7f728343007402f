package digraph_test

import (
	"slices"
	"testing"

	"pneumatic/api"
	"pneumatic/digraph"
)

// P10.2

// firstCycle follows the definition.
func firstCycle(g api.Graph) ([]int, api.Errno) {
	for v := range g.N {
		if path := firstPath(g, v, v, 1); path != nil {
			return path[:len(path)-1], api.OK
		}
	}
	return nil, api.ErrNone
}

func TestCycle(t *testing.T) {
	for _, g := range graphs() {
		l, e := digraph.Cycle(g)
		expected, none := firstCycle(g)
		expect(t, name("Cycle", g), l, e, expected, none)
	}
	l, e := digraph.Cycle(first())
	expect(t, "Cycle", l, e, []int{0, 2, 1}, api.OK)
	l, e = digraph.Cycle(second())
	expect(t, "Cycle", l, e, nil, api.ErrNone)
	l, e = digraph.Cycle(of(3, 2, 2, 0, 1))
	expect(t, "Cycle", l, e, []int{2}, api.OK)
	// The cycle of the least vertex is told, though another one is shorter.
	l, e = digraph.Cycle(of(5, 4, 4, 3, 1, 1, 2, 2, 3))
	expect(t, "Cycle", l, e, []int{1, 2, 3}, api.OK)
	// A shorter cycle comes first, and of those as long the one with the lesser vertex.
	l, e = digraph.Cycle(of(5, 0, 1, 1, 2, 2, 0, 0, 4, 4, 0, 3, 0, 0, 3))
	expect(t, "Cycle", l, e, []int{0, 3}, api.OK)
}

// order follows the definition, step by step.
func order(g api.Graph) []int {
	var l []int
	isNext := func(v int) bool {
		if slices.Contains(l, v) {
			return false
		}
		for _, edge := range g.Edges {
			if edge.To == v && !slices.Contains(l, edge.From) {
				return false
			}
		}
		return true
	}
	for v := 0; v < g.N; {
		if isNext(v) {
			l = append(l, v)
			v = 0
		} else {
			v++
		}
	}
	return l
}

// layers returns the lengths of the longest paths, where there is no cycle.
func layers(g api.Graph) []int {
	var l []int
	for v := range g.N {
		longest := 0
		for from := range g.N {
			for length := range g.N {
				if walk(g, []int{from}, length, v) != nil {
					longest = max(longest, length)
				}
			}
		}
		l = append(l, longest)
	}
	return l
}

func TestOrderAndLayers(t *testing.T) {
	ordered := 0
	for _, g := range graphs() {
		l, e := digraph.Order(g)
		up, f := digraph.Layers(g)
		if _, none := firstCycle(g); none == api.OK {
			expect(t, name("Order", g), l, e, nil, api.ErrCycle)
			expect(t, name("Layers", g), up, f, nil, api.ErrCycle)
			continue
		}
		ordered++
		expect(t, name("Order", g), l, e, order(g), api.OK)
		expect(t, name("Layers", g), up, f, layers(g), api.OK)
	}
	if ordered < 400 {
		t.Errorf("only %d graphs have no cycle", ordered)
	}
	l, e := digraph.Order(second())
	expect(t, "Order", l, e, []int{2, 3, 1, 0}, api.OK)
	l, e = digraph.Layers(second())
	expect(t, "Layers", l, e, []int{2, 1, 0, 0}, api.OK)
	l, e = digraph.Order(first())
	expect(t, "Order", l, e, nil, api.ErrCycle)
	l, e = digraph.Layers(first())
	expect(t, "Layers", l, e, nil, api.ErrCycle)
	// Only what is behind a cycle, and what is on it, has no place.
	l, e = digraph.Order(of(4, 1, 1, 2, 3))
	expect(t, "Order", l, e, nil, api.ErrCycle)
	l, e = digraph.Layers(of(2, 0, 1, 0, 1))
	expect(t, "Layers", l, e, []int{0, 1}, api.OK)
}

// components returns the index of the component of each vertex.
func components(g api.Graph) []int {
	l := make([]int, g.N)
	count := 0
	for v := range g.N {
		l[v] = -1
		for w := range v {
			if firstPath(g, v, w, 0) != nil && firstPath(g, w, v, 0) != nil {
				l[v] = l[w]
				break
			}
		}
		if l[v] < 0 {
			l[v] = count
			count++
		}
	}
	return l
}

// condense returns the edges between components.
func condense(g api.Graph, number []int) []api.Edge {
	var l []api.Edge
	for a := range g.N {
		for b := range g.N {
			for _, edge := range g.Edges {
				found := api.Edge{From: a, To: b}
				if a != b && number[edge.From] == a && number[edge.To] == b && !slices.Contains(l, found) {
					l = append(l, found)
				}
			}
		}
	}
	return l
}

func TestComponents(t *testing.T) {
	for _, g := range graphs() {
		number := components(g)
		var expected [][]int
		for v, i := range number {
			if i == len(expected) {
				expected = append(expected, nil)
			}
			expected[i] = append(expected[i], v)
		}
		l, e := digraph.Components(g)
		same(t, name("error of Components", g), e, api.OK)
		same(t, name("Components", g), slices.EqualFunc(l, expected, slices.Equal[[]int]), true)
		condensed, indices, e := digraph.Condense(g)
		expect(t, name("indices of Condense", g), indices, e, number, api.OK)
		same(t, name("vertices of Condense", g), condensed.N, len(expected))
		expect(t, name("edges of Condense", g), condensed.Edges, e, condense(g, number), api.OK)
	}
}

func TestComponentsOfTheExample(t *testing.T) {
	l, e := digraph.Components(first())
	same(t, "error of Components", e, api.OK)
	same(t, "Components", slices.EqualFunc(l, [][]int{{0, 1, 2}, {3}, {4}}, slices.Equal[[]int]), true)
	g, indices, e := digraph.Condense(first())
	expect(t, "indices of Condense", indices, e, []int{0, 0, 0, 1, 2}, api.OK)
	expect(t, "edges of Condense", g.Edges, e, []api.Edge{{From: 0, To: 1}}, api.OK)
	same(t, "vertices of Condense", g.N, 3)
	// Edges are in ascending order, and each there once, however they occur in the graph.
	g, indices, e = digraph.Condense(of(5, 4, 3, 2, 1, 4, 0, 1, 0, 0, 1, 4, 1, 2, 0, 4, 3))
	expect(t, "indices of Condense", indices, e, []int{0, 0, 1, 2, 3}, api.OK)
	expect(t, "edges of Condense", g.Edges, e, []api.Edge{{From: 1, To: 0}, {From: 3, To: 0}, {From: 3, To: 2}}, api.OK)
	// An edge from a vertex to itself makes no component, and no edge.
	g, indices, e = digraph.Condense(of(2, 0, 0, 1, 1, 1, 0))
	expect(t, "indices of Condense", indices, e, []int{0, 1}, api.OK)
	expect(t, "edges of Condense", g.Edges, e, []api.Edge{{From: 1, To: 0}}, api.OK)
	g, indices, e = digraph.Condense(of(0))
	expect(t, "indices of Condense", indices, e, nil, api.OK)
	same(t, "vertices of Condense", g.N+len(g.Edges), 0)
}
