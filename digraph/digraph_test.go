package digraph_test

import (
	"math"
	"math/rand"
	"slices"
	"strconv"
	"testing"

	"pneumatic/api"
	"pneumatic/digraph"
)

func same[T comparable](t *testing.T, what string, got, expected T) {
	t.Helper()
	if got != expected {
		t.Errorf("%s: %v instead of %v", what, got, expected)
	}
}

// expect compares a list and an error with those that are expected.
func expect[T comparable](t *testing.T, what string, l []T, e api.Errno, expected []T, f api.Errno) {
	t.Helper()
	if !slices.Equal(l, expected) {
		t.Errorf("%s: %v instead of %v", what, l, expected)
	}
	same(t, "error of "+what, e, f)
}

// of returns the graph with n vertices, and with edges from the first to the second, from the third to the fourth one, and so on.
func of(n int, ends ...int) api.Graph {
	g := api.Graph{N: n}
	for i := 0; i < len(ends); i += 2 {
		g.Edges = append(g.Edges, api.Edge{From: ends[i], To: ends[i+1]})
	}
	return g
}

// first and second are the graphs of the examples of the chapter.
func first() api.Graph  { return of(5, 0, 2, 2, 1, 1, 0, 2, 3, 0, 3) }
func second() api.Graph { return of(4, 3, 1, 1, 0, 3, 0, 2, 0) }

// name returns the name of a call with a graph and vertices.
func name(function string, g api.Graph, vertices ...int) string {
	function += " " + strconv.Itoa(g.N) + ":"
	for i, edge := range g.Edges {
		if i == 40 {
			function += " .."
			break
		}
		function += " " + strconv.Itoa(edge.From) + "-" + strconv.Itoa(edge.To)
	}
	for _, v := range vertices {
		function += ", " + strconv.Itoa(v)
	}
	return function
}

// graphs returns all graphs with up to 3 vertices in which each edge occurs once, and some with up to 6 vertices.
func graphs() []api.Graph {
	var l []api.Graph
	for n := range 4 {
		for mask := range 1 << (n * n) {
			g := of(n)
			for k := range n * n {
				if mask>>k&1 == 1 {
					g.Edges = append(g.Edges, api.Edge{From: k / n, To: k % n})
				}
			}
			l = append(l, g)
		}
	}
	r := rand.New(rand.NewSource(10))
	l = append(l, first(), second())
	for range 1200 {
		l = append(l, random(r, 2+r.Intn(5), r.Intn(10)))
	}
	return l
}

// random returns a graph with some edges, in half of the cases without a cycle.
func random(r *rand.Rand, n, edges int) api.Graph {
	g, names, ahead := of(n), r.Perm(n), r.Intn(2) == 0
	for range edges {
		a, b := r.Intn(n), r.Intn(n)
		if ahead && a == b {
			continue
		}
		if ahead {
			a, b = min(a, b), max(a, b)
		}
		g.Edges = append(g.Edges, api.Edge{From: names[a], To: names[b]})
		if r.Intn(8) == 0 {
			g.Edges = append(g.Edges, g.Edges[r.Intn(len(g.Edges))])
		}
	}
	return g
}

// largeGraphs returns graphs with many vertices.
func largeGraphs() []api.Graph {
	r := rand.New(rand.NewSource(256))
	var l []api.Graph
	for _, n := range []int{40, 255, 256} {
		for _, edges := range []int{n / 2, n, 2 * n, 3600} {
			for range 4 {
				l = append(l, random(r, n, min(edges, 3600)))
			}
		}
	}
	ring := of(256)
	for v := range 256 {
		ring.Edges = append(ring.Edges, api.Edge{From: v, To: (v + 255) % 256})
	}
	line := of(256)
	line.Edges = slices.Clone(ring.Edges[1:])
	return append(l, ring, line, of(256))
}

// hasEdge reports whether an edge leads from one vertex to another one.
func hasEdge(g api.Graph, from, to int) bool {
	return slices.Contains(g.Edges, api.Edge{From: from, To: to})
}

// walk returns the first list of so many vertices more behind a path that ends at a vertex, in which edges lead on, or nil.
func walk(g api.Graph, path []int, length, to int) []int {
	last := path[len(path)-1]
	if length == 0 {
		if last == to {
			return path
		}
		return nil
	}
	for v := range g.N {
		if hasEdge(g, last, v) {
			if found := walk(g, append(slices.Clone(path), v), length-1, to); found != nil {
				return found
			}
		}
	}
	return nil
}

// firstPath returns the first path from a vertex to another one with at least so many edges, or nil.
func firstPath(g api.Graph, from, to, least int) []int {
	for length := least; length <= g.N; length++ {
		if path := walk(g, []int{from}, length, to); path != nil {
			return path
		}
	}
	return nil
}

// flawed is a graph with its error.
type flawed struct {
	g api.Graph
	e api.Errno
}

func flawedGraphs() []flawed {
	many := api.Graph{N: 256, Edges: make([]api.Edge, 4097)}
	bad := api.Graph{N: 1, Edges: make([]api.Edge, 4097)}
	bad.Edges[0].To = 1
	last := api.Graph{N: 1, Edges: make([]api.Edge, 4096)}
	last.Edges[4095].From = -1
	return []flawed{
		{of(-1), api.ErrRange}, {of(257), api.ErrRange}, {of(math.MinInt), api.ErrRange}, {of(math.MaxInt), api.ErrRange}, {of(api.None), api.ErrRange}, {of(-1, 0, 0), api.ErrRange}, {of(257, 0, 1), api.ErrRange}, {api.Graph{N: -1, Edges: many.Edges}, api.ErrRange}, {api.Graph{N: 257, Edges: many.Edges}, api.ErrRange},
		{many, api.ErrMany}, {bad, api.ErrMany}, {api.Graph{Edges: make([]api.Edge, 9999)}, api.ErrMany},
		{last, api.ErrRange}, {of(0, 0, 0), api.ErrRange}, {of(1, 0, 1), api.ErrRange}, {of(1, 1, 0), api.ErrRange}, {of(2, 0, 1, -1, 0), api.ErrRange}, {of(2, 0, 1, 0, -1), api.ErrRange}, {of(256, 255, 256), api.ErrRange}, {of(256, math.MaxInt, 0), api.ErrRange}, {of(256, 0, math.MinInt), api.ErrRange}, {of(3, api.None, api.None), api.ErrRange},
	}
}

func TestErrorsOfGraphs(t *testing.T) {
	for _, x := range flawedGraphs() {
		same(t, name("Check", x.g), digraph.Check(x.g), x.e)
		for _, v := range []int{0, -1, 1, math.MaxInt} {
			l, e := digraph.Reach(x.g, v)
			expect(t, name("Reach", x.g, v), l, e, nil, x.e)
			l, e = digraph.Distances(x.g, v)
			expect(t, name("Distances", x.g, v), l, e, nil, x.e)
			l, e = digraph.Path(x.g, v, 0)
			expect(t, name("Path", x.g, v, 0), l, e, nil, x.e)
		}
		l, e := digraph.Cycle(x.g)
		expect(t, name("Cycle", x.g), l, e, nil, x.e)
		l, e = digraph.Order(x.g)
		expect(t, name("Order", x.g), l, e, nil, x.e)
		l, e = digraph.Layers(x.g)
		expect(t, name("Layers", x.g), l, e, nil, x.e)
		parts, e := digraph.Components(x.g)
		same(t, name("Components", x.g), len(parts), 0)
		same(t, name("error of Components", x.g), e, x.e)
		g, l, e := digraph.Condense(x.g)
		expect(t, name("Condense", x.g), l, e, nil, x.e)
		same(t, name("graph of Condense", x.g), g.N+len(g.Edges), 0)
		g, e = digraph.Reverse(x.g)
		expect(t, name("Reverse", x.g), g.Edges, e, nil, x.e)
		same(t, name("vertices of Reverse", x.g), g.N, 0)
	}
}

// P10.1

func TestCheck(t *testing.T) {
	for n := range 257 {
		same(t, "Check", digraph.Check(of(n)), api.OK)
		same(t, "Check", digraph.Check(of(n, 0, n)), api.ErrRange)
		same(t, "Check", digraph.Check(of(n, n, 0)), api.ErrRange)
		if n > 0 {
			same(t, "Check", digraph.Check(of(n, 0, n-1, n-1, 0)), api.OK)
			same(t, "Check", digraph.Check(api.Graph{N: n, Edges: make([]api.Edge, 4096)}), api.OK)
		}
	}
}

func TestErrorsOfVertices(t *testing.T) {
	for _, g := range []api.Graph{of(0), of(1), first(), of(256, 3, 4)} {
		for _, v := range []int{-1, g.N, g.N + 1, math.MinInt, math.MaxInt, api.None} {
			l, e := digraph.Reach(g, v)
			expect(t, name("Reach", g, v), l, e, nil, api.ErrRange)
			l, e = digraph.Distances(g, v)
			expect(t, name("Distances", g, v), l, e, nil, api.ErrRange)
			for _, w := range []int{0, v, 3} {
				l, e = digraph.Path(g, v, w)
				expect(t, name("Path", g, v, w), l, e, nil, api.ErrRange)
				l, e = digraph.Path(g, w, v)
				expect(t, name("Path", g, w, v), l, e, nil, api.ErrRange)
			}
		}
	}
}

func TestPaths(t *testing.T) {
	for _, g := range graphs() {
		for from := range g.N {
			var reach, distances []int
			for to := range g.N {
				expected, none := firstPath(g, from, to, 0), api.OK
				if expected == nil {
					none = api.ErrNone
				} else {
					reach = append(reach, to)
				}
				distances = append(distances, len(expected)-1)
				l, e := digraph.Path(g, from, to)
				expect(t, name("Path", g, from, to), l, e, expected, none)
			}
			l, e := digraph.Reach(g, from)
			expect(t, name("Reach", g, from), l, e, reach, api.OK)
			l, e = digraph.Distances(g, from)
			expect(t, name("Distances", g, from), l, e, distances, api.OK)
		}
	}
}

func TestPathsOfTheExample(t *testing.T) {
	l, e := digraph.Reach(first(), 1)
	expect(t, "Reach", l, e, []int{0, 1, 2, 3}, api.OK)
	l, e = digraph.Distances(first(), 1)
	expect(t, "Distances", l, e, []int{1, 0, 2, 2, -1}, api.OK)
	l, e = digraph.Path(first(), 2, 0)
	expect(t, "Path", l, e, []int{2, 1, 0}, api.OK)
	l, e = digraph.Path(first(), 3, 0)
	expect(t, "Path", l, e, nil, api.ErrNone)
	// A vertex alone is a path, with or without an edge to itself.
	l, e = digraph.Path(of(2, 1, 1), 1, 1)
	expect(t, "Path", l, e, []int{1}, api.OK)
	l, e = digraph.Path(of(2, 1, 1), 0, 0)
	expect(t, "Path", l, e, []int{0}, api.OK)
	// The first path is one of the shortest, even if another one begins with a lesser vertex.
	l, e = digraph.Path(of(6, 0, 1, 1, 2, 2, 5, 0, 4, 0, 3, 4, 5, 3, 5), 0, 5)
	expect(t, "Path", l, e, []int{0, 3, 5}, api.OK)
}

func TestReverse(t *testing.T) {
	for _, g := range append(graphs(), largeGraphs()...) {
		var expected []api.Edge
		for _, edge := range g.Edges {
			expected = append(expected, api.Edge{From: edge.To, To: edge.From})
		}
		back, e := digraph.Reverse(g)
		expect(t, name("Reverse", g), back.Edges, e, expected, api.OK)
		same(t, name("vertices of Reverse", g), back.N, g.N)
	}
}
