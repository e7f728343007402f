package digraph_test

import (
	"slices"
	"testing"

	"pneumatic/api"
	"pneumatic/digraph"
)

// P10.3

// many returns the graphs of all laws.
func many() []api.Graph {
	return append(graphs(), largeGraphs()...)
}

// some returns a few vertices of a graph.
func some(g api.Graph) []int {
	var l []int
	for v := 0; v < g.N; v += 1 + g.N/12 {
		l = append(l, v)
	}
	return l
}

func TestPathsAreAsLongAsDistances(t *testing.T) {
	for _, g := range many() {
		for _, from := range some(g) {
			away, _ := digraph.Distances(g, from)
			reach, _ := digraph.Reach(g, from)
			isTooFar := func(edge api.Edge) bool {
				return away[edge.From] >= 0 && (away[edge.To] < 0 || away[edge.To] > away[edge.From]+1)
			}
			same(t, name("Distances", g, from), slices.ContainsFunc(g.Edges, isTooFar), false)
			for _, to := range some(g) {
				path, e := digraph.Path(g, from, to)
				same(t, name("Path", g, from, to), len(path)-1, away[to])
				same(t, name("error of Path", g, from, to), e == api.OK, slices.Contains(reach, to))
				for i := 1; i < len(path); i++ {
					same(t, "edges of Path", hasEdge(g, path[i-1], path[i]), true)
				}
			}
		}
	}
}

func TestThereIsAnOrderOrACycle(t *testing.T) {
	for _, g := range many() {
		l, e := digraph.Order(g)
		cycle, f := digraph.Cycle(g)
		if e == api.ErrCycle {
			same(t, name("error of Cycle", g), f, api.OK)
			for i, v := range cycle {
				same(t, name("edges of Cycle", g), hasEdge(g, v, cycle[(i+1)%len(cycle)]), true)
			}
			continue
		}
		same(t, name("error of Order", g), e, api.OK)
		same(t, name("error of Cycle", g), f, api.ErrNone)
		place, layers := make([]int, g.N), make([]int, g.N)
		for i, v := range l {
			place[v] = i
		}
		expectAll(t, name("Order", g), l, g.N)
		up, e := digraph.Layers(g)
		same(t, name("error of Layers", g), e, api.OK)
		for _, edge := range g.Edges {
			same(t, "Order", place[edge.From] < place[edge.To], true)
			same(t, "Layers", up[edge.From] < up[edge.To], true)
			layers[edge.To] = max(layers[edge.To], up[edge.From]+1)
		}
		expect(t, name("Layers", g), up, api.OK, layers, api.OK)
	}
}

// expectAll compares a list with all numbers below n, in any order.
func expectAll(t *testing.T, what string, l []int, n int) {
	t.Helper()
	var all []int
	for k := range n {
		all = append(all, k)
	}
	expect(t, what, slices.Sorted(slices.Values(l)), api.OK, all, api.OK)
}

func TestComponentsPartitionTheVertices(t *testing.T) {
	for _, g := range many() {
		l, e := digraph.Components(g)
		same(t, name("error of Components", g), e, api.OK)
		expectAll(t, name("Components", g), slices.Concat(l...), g.N)
		condensed, indices, e := digraph.Condense(g)
		same(t, name("error of Condense", g), e, api.OK)
		same(t, name("Condense", g), condensed.N, len(l))
		_, e = digraph.Cycle(condensed)
		same(t, name("Cycle of Condense", g), e, api.ErrNone)
		least := -1
		for i, group := range l {
			same(t, name("order of Components", g), group[0] > least, true)
			same(t, name("vertices of Components", g), slices.IsSorted(group), true)
			least = group[0]
			for _, v := range group {
				same(t, "indices of Condense", indices[v], i)
			}
			// From one vertex there are paths to all of the component, and from all of it to this one.
			back, _ := digraph.Reverse(g)
			there, _ := digraph.Reach(g, group[0])
			here, _ := digraph.Reach(back, group[0])
			both := slices.DeleteFunc(there, func(v int) bool { return !slices.Contains(here, v) })
			expect(t, name("Components", g), group, api.OK, both, api.OK)
		}
	}
}

func TestReversingTwiceChangesNothing(t *testing.T) {
	for _, g := range many() {
		back, _ := digraph.Reverse(g)
		again, e := digraph.Reverse(back)
		expect(t, name("Reverse", g), again.Edges, e, g.Edges, api.OK)
		same(t, name("vertices of Reverse", g), again.N, g.N)
		l, _ := digraph.Components(g)
		k, e := digraph.Components(back)
		same(t, name("error of Components", back), e, api.OK)
		same(t, name("Components", back), slices.EqualFunc(l, k, slices.Equal[[]int]), true)
	}
}

// P1, and the rules of all layers about memory

func TestArgumentsAndResultsAreNotShared(t *testing.T) {
	for _, graph := range []func() api.Graph{first, second} {
		g := graph()
		call := func() [][]int {
			reach, _ := digraph.Reach(g, 1)
			distances, _ := digraph.Distances(g, 1)
			path, _ := digraph.Path(g, 2, 0)
			cycle, _ := digraph.Cycle(g)
			order, _ := digraph.Order(g)
			layers, _ := digraph.Layers(g)
			_, indices, _ := digraph.Condense(g)
			components, _ := digraph.Components(g)
			return append(components, reach, distances, path, cycle, order, layers, indices)
		}
		// What is written to one list, and behind its end, is seen in no other one.
		var kept [][]int
		for _, l := range call() {
			kept = append(kept, slices.Clone(l))
			whole := l[:cap(l)]
			for i := range whole {
				whole[i] = -7
			}
		}
		same(t, "lists", slices.EqualFunc(call(), kept, slices.Equal[[]int]), true)
		condensed, _, _ := digraph.Condense(g)
		back, _ := digraph.Reverse(g)
		for _, edges := range [][]api.Edge{condensed.Edges, back.Edges} {
			for i := range edges {
				edges[i] = api.Edge{From: -1, To: -1}
			}
		}
		same(t, "edges", slices.Equal(g.Edges, graph().Edges), true)
	}
}
