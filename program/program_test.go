package program_test

import (
	"fmt"
	"maps"
	"math"
	"math/rand"
	"slices"
	"strings"
	"testing"

	"pneumatic/api"
	"pneumatic/lexer"
	"pneumatic/program"
	"pneumatic/stroke"
)

func same[T comparable](t *testing.T, what string, got, expected T) {
	t.Helper()
	if got != expected {
		t.Errorf("%s: %v instead of %v", what, got, expected)
	}
}

// expect compares a result and an error with those that are expected. Nil and empty lists are equal.
func expect(t *testing.T, what string, got any, e api.Errno, expected any, f api.Errno) {
	t.Helper()
	same(t, what, fmt.Sprint(got), fmt.Sprint(expected))
	same(t, "error of "+what, e, f)
}

func out(actuator int) api.Stroke { return api.Stroke{Actuator: actuator, Out: true} }
func in(actuator int) api.Stroke  { return api.Stroke{Actuator: actuator} }

// single returns the program of one step, which may be wrong.
func single(wait int, strokes ...api.Stroke) api.Node {
	return api.Node{Kind: api.NodeStep, Step: api.Step{Strokes: strokes, Wait: wait}}
}

func list(nodes ...api.Node) api.Node { return api.Node{Kind: api.NodeList, Nodes: nodes} }

func repeat(count int, nodes ...api.Node) api.Node {
	return api.Node{Kind: api.NodeRepeat, Count: count, Nodes: nodes}
}

func choice(name string, nodes ...api.Node) api.Node {
	return api.Node{Kind: api.NodeChoose, Name: name, Nodes: nodes}
}

// steps returns programs of one step each, by the text of the steps.
func steps(text string) []api.Node {
	l, _, e := stroke.Parse(text)
	if e != api.OK {
		panic(text)
	}
	var nodes []api.Node
	for _, x := range l {
		nodes = append(nodes, single(x.Wait, x.Strokes...))
	}
	return nodes
}

// one returns the program of one step, by its text.
func one(text string) api.Node { return steps(text)[0] }

// deep returns a program with so many levels of lists.
func deep(levels int) api.Node {
	if levels == 1 {
		return one("A+")
	}
	return list(deep(levels - 1))
}

// cyclic returns a node that contains itself.
func cyclic(kind int) api.Node {
	n := api.Node{Kind: kind, Nodes: make([]api.Node, 1)}
	n.Nodes[0] = n
	return n
}

// anything returns a program of random nodes of so many levels at most. It is right, but its steps mostly do not fit.
func anything(r *rand.Rand, levels int) api.Node {
	if levels == 1 || r.Intn(3) == 0 {
		n := single([]int{0, 0, 1, 250, 1000000}[r.Intn(5)])
		for actuator := range 6 {
			if r.Intn(4) == 0 || len(n.Step.Strokes) == 0 && actuator == 5 {
				n.Step.Strokes = append(n.Step.Strokes, api.Stroke{Actuator: actuator, Out: r.Intn(2) == 0})
			}
		}
		return n
	}
	inner := func() api.Node { return anything(r, levels-1) }
	switch r.Intn(4) {
	case 0:
		return repeat([]int{1, 1, 2, 3, 10, 64}[r.Intn(6)], inner())
	case 1:
		return choice(words[r.Intn(len(words))], inner(), inner())
	default:
		n := list(inner())
		for r.Intn(3) > 0 {
			n.Nodes = append(n.Nodes, inner())
		}
		return n
	}
}

// words has names of inputs, some of which are easily taken for something else.
var words = []string{"a", "b", "long", "A", "F", "if", "else", "repeat", "a_1", "abcdefghijklmnopqrstuvwx"}

// carried returns a program that moves the actuators from one on out and back in, if its choices agree; its inputs are a to f.
func carried(r *rand.Rand, actuator int) api.Node {
	if actuator == 6 || actuator > 0 && r.Intn(4) == 0 {
		return list(single(0, out(actuator%6)), single(r.Intn(3), in(actuator%6)))
	}
	n := list(single(r.Intn(2), out(actuator)), carried(r, actuator+1), single(0, in(actuator)))
	switch r.Intn(4) {
	case 0:
		return repeat(1+r.Intn(3), n)
	case 1:
		other := carried(r, actuator)
		if r.Intn(3) == 0 {
			other = carried(r, actuator+1)
		}
		return choice(string(rune('a'+r.Intn(6))), other, n)
	}
	return n
}

// programs returns right programs.
func programs() []api.Node {
	r := rand.New(rand.NewSource(151))
	var l []api.Node
	for i := range 1000 {
		l = append(l, anything(r, 1+i%6))
		l = append(l, carried(r, 0))
	}
	return slices.DeleteFunc(l, func(n api.Node) bool { return nodeError(n) != api.OK })
}

// sizeOf returns the number of nodes and the depth, both at most 300.
func sizeOf(n api.Node, level int) (nodes, depth int) {
	nodes, depth = 1, level
	for _, x := range n.Nodes {
		if nodes > 300 || level > 300 {
			break
		}
		k, d := sizeOf(x, level+1)
		nodes, depth = nodes+k, max(depth, d)
	}
	return nodes, depth
}

// nodeError follows the definition.
func nodeError(n api.Node) api.Errno {
	if nodes, depth := sizeOf(n, 1); nodes > 256 || depth > 16 {
		return api.ErrMany
	}
	return innerError(n)
}

// innerError returns the first error in preorder.
func innerError(n api.Node) api.Errno {
	zeroStep := len(n.Step.Strokes) == 0 && n.Step.Wait == 0
	var form bool
	var e api.Errno
	switch n.Kind {
	case 0:
		form = len(n.Nodes) == 0 && n.Count == 0 && n.Name == ""
		e = stroke.CheckStep(n.Step)
	case 1:
		form = len(n.Nodes) > 0 && n.Count == 0 && n.Name == "" && zeroStep
	case 2:
		form = len(n.Nodes) == 1 && n.Name == "" && zeroStep
		if n.Count <= 0 || n.Count > 64 {
			e = api.ErrRange
		}
	case 3:
		form = len(n.Nodes) == 2 && n.Count == 0 && zeroStep
		e = lexer.Word(n.Name)
	default:
		return api.ErrArg
	}
	if !form {
		return api.ErrForm
	}
	for _, x := range n.Nodes {
		if e == api.OK {
			e = innerError(x)
		}
	}
	return e
}

// changed returns a program with a change to one of its nodes, which may be an error.
func changed(r *rand.Rand, n api.Node) api.Node {
	if len(n.Nodes) > 0 && r.Intn(3) > 0 {
		n.Nodes = slices.Clone(n.Nodes)
		k := r.Intn(len(n.Nodes))
		n.Nodes[k] = changed(r, n.Nodes[k])
		return n
	}
	switch r.Intn(7) {
	case 0:
		n.Kind = r.Intn(6) - 1
	case 1:
		n.Count = []int{0, 1, 2, 64, 65, -1}[r.Intn(6)]
	case 2:
		n.Name = []string{"", "a", "1", "a b", "abcdefghijklmnopqrstuvwxy", "é"}[r.Intn(6)]
	case 3:
		n.Nodes = append(slices.Clone(n.Nodes), one("B+"))
	case 4:
		n.Nodes = n.Nodes[:len(n.Nodes)/2]
	case 5:
		n.Step.Wait = []int{0, 1, -1, 1000000, 1000001}[r.Intn(5)]
	case 6:
		n.Step.Strokes = [][]api.Stroke{nil, {}, {out(0)}, {in(6)}, {out(1), in(1)}, {out(1), out(0)}, make([]api.Stroke, 7)}[r.Intn(7)]
	}
	return n
}

// wrongPrograms returns some of each error.
func wrongPrograms() []api.Node {
	r := rand.New(rand.NewSource(152))
	l := []api.Node{{}, {Kind: 4}, list(), repeat(0, one("A+")), deep(17), cyclic(api.NodeList), choice("a b", one("A+"), one("A-"))}
	for _, n := range programs()[:1500] {
		l = append(l, changed(r, n), changed(r, changed(r, n)))
	}
	return slices.DeleteFunc(l, func(n api.Node) bool { return nodeError(n) == api.OK })
}

// P15.1

func TestCheck(t *testing.T) {
	for _, n := range programs() {
		same(t, "Check", program.Check(n), api.OK)
	}
	seen := map[api.Errno]int{}
	for _, n := range wrongPrograms() {
		if e := program.Check(n); e != nodeError(n) {
			t.Errorf("Check %v: %d instead of %d", n, e, nodeError(n))
		}
		seen[nodeError(n)]++
	}
	for _, e := range []api.Errno{api.ErrArg, api.ErrForm, api.ErrEmpty, api.ErrMany, api.ErrRange, api.ErrTwice, api.ErrOrder, api.ErrLong} {
		if seen[e] < 5 {
			t.Errorf("only %d programs with the error %d", seen[e], e)
		}
	}
}

// with returns a node with other fields.
func with(n api.Node, count int, name string, x api.Step) api.Node {
	n.Count, n.Name, n.Step = count, name, x
	return n
}

func TestErrorsOfCheck(t *testing.T) {
	a, b := one("A+"), one("B- 50")
	waits, moves := api.Step{Wait: 5}, api.Step{Strokes: []api.Stroke{out(0)}}
	w24, w25 := strings.Repeat("a", 24), strings.Repeat("a", 25)
	for _, x := range []struct {
		n api.Node
		e api.Errno
	}{
		{a, api.OK}, {api.Node{}, api.ErrEmpty}, {single(-1), api.ErrEmpty}, {single(0, make([]api.Stroke, 7)...), api.ErrMany}, {single(0, in(6)), api.ErrRange}, {single(0, in(1), out(1)), api.ErrTwice}, {single(0, in(1), in(0)), api.ErrOrder}, {single(1000001, in(0)), api.ErrRange}, {single(-1, in(0)), api.ErrRange}, {single(1000000, in(0)), api.OK},
		{with(a, 1, "", a.Step), api.ErrForm}, {with(a, -1, "", a.Step), api.ErrForm}, {with(a, 0, "a", a.Step), api.ErrForm}, {api.Node{Step: a.Step, Nodes: []api.Node{b}}, api.ErrForm}, {api.Node{Nodes: []api.Node{b}}, api.ErrForm}, {api.Node{Step: a.Step, Nodes: []api.Node{}}, api.OK}, {with(single(-1), 1, "", api.Step{}), api.ErrForm},
		{api.Node{Kind: -1}, api.ErrArg}, {api.Node{Kind: 4}, api.ErrArg}, {api.Node{Kind: math.MinInt}, api.ErrArg}, {api.Node{Kind: math.MaxInt, Nodes: []api.Node{a}}, api.ErrArg}, {api.Node{Kind: 4, Count: 5, Name: "5", Step: waits}, api.ErrArg},
		{list(), api.ErrForm}, {list(a), api.OK}, {list(a, b, a), api.OK}, {with(list(a), 1, "", api.Step{}), api.ErrForm}, {with(list(a), 0, "a", api.Step{}), api.ErrForm}, {with(list(a), 0, "", waits), api.ErrForm}, {with(list(a), 0, "", moves), api.ErrForm}, {with(list(a), 0, "", api.Step{Strokes: []api.Stroke{}}), api.OK}, {with(list(a), 0, "", single(0, in(9)).Step), api.ErrForm},
		{repeat(2), api.ErrForm}, {repeat(2, a), api.OK}, {repeat(2, a, b), api.ErrForm}, {repeat(0), api.ErrForm}, {repeat(0, a), api.ErrRange}, {repeat(1, a), api.OK}, {repeat(64, a), api.OK}, {repeat(65, a), api.ErrRange}, {repeat(-1, a), api.ErrRange}, {repeat(math.MinInt, a), api.ErrRange}, {with(repeat(2, a), 2, "a", api.Step{}), api.ErrForm}, {with(repeat(2, a), 2, "", waits), api.ErrForm}, {with(repeat(2, a), 65, "", moves), api.ErrForm},
		{choice("a"), api.ErrForm}, {choice("a", a), api.ErrForm}, {choice("a", a, b), api.OK}, {choice("a", a, b, a), api.ErrForm}, {choice("", a, b), api.ErrForm}, {choice("1", a, b), api.ErrForm}, {choice("a-b", a, b), api.ErrForm}, {choice("_a", a, b), api.ErrForm}, {choice("é", a, b), api.ErrForm}, {choice(w24, a, b), api.OK}, {choice(w25, a, b), api.ErrLong}, {choice(w25, a), api.ErrForm}, {choice("if", a, b), api.OK}, {choice("A", a, b), api.OK}, {with(choice("a", a, b), 1, "a", api.Step{}), api.ErrForm}, {with(choice("a", a, b), 0, "a", waits), api.ErrForm}, {with(choice("a", a, b), 0, w25, moves), api.ErrForm},
		// The first node in preorder decides.
		{list(single(0), api.Node{Kind: 4}), api.ErrEmpty}, {list(api.Node{Kind: 4}, single(0)), api.ErrArg}, {list(a, repeat(65, single(0)), list()), api.ErrRange}, {list(list(a, single(0, in(1), in(0))), choice("1", a, b)), api.ErrOrder}, {choice(w25, single(0), a), api.ErrLong}, {choice("a", list(a, list()), single(0)), api.ErrForm}, {with(list(single(0)), 1, "", api.Step{}), api.ErrForm},
		// Sizes come first.
		{deep(16), api.OK}, {deep(17), api.ErrMany}, {list(slices.Repeat([]api.Node{a}, 255)...), api.OK}, {list(slices.Repeat([]api.Node{a}, 256)...), api.ErrMany}, {list(make([]api.Node, 256)...), api.ErrMany}, {list(make([]api.Node, 255)...), api.ErrEmpty}, {list(make([]api.Node, 1<<20)...), api.ErrMany}, {api.Node{Kind: 4, Nodes: []api.Node{deep(16)}}, api.ErrMany}, {api.Node{Kind: 4, Nodes: []api.Node{deep(15)}}, api.ErrArg}, {cyclic(api.NodeList), api.ErrMany}, {cyclic(9), api.ErrMany},
	} {
		if e := program.Check(x.n); e != x.e {
			t.Errorf("Check %v: %d instead of %d", x.n.Kind, e, x.e)
		}
		same(t, "definition", nodeError(x.n), x.e)
	}
}

func TestErrorsOfOtherFunctions(t *testing.T) {
	for _, n := range wrongPrograms() {
		expected := nodeError(n)
		text, e := program.Format(n)
		expect(t, "Format", text, e, "", expected)
		names, e := program.Inputs(n)
		expect(t, "Inputs", names, e, []string{}, expected)
		length, e := program.Length(n, nil)
		expect(t, "Length", length, e, 0, expected)
		l, e := program.Unfold(n, []string{"a"})
		expect(t, "Unfold", l, e, []api.Step{}, expected)
		s, e := program.Sequence(n, []string{"a"})
		expect(t, "Sequence", s, e, api.Sequence{}, expected)
		on, reason, e := program.Faulty(n)
		expect(t, "Faulty", on, e, []string{}, expected)
		same(t, "reason of Faulty", reason, api.OK)
		normal, e := program.Normal(n)
		expect(t, "Normal", normal, e, api.Node{}, expected)
	}
}

func TestInputs(t *testing.T) {
	a := one("A+")
	for _, x := range []struct {
		n     api.Node
		names []string
	}{
		{a, nil}, {repeat(64, list(a, a)), nil}, {choice("x", a, a), []string{"x"}}, {list(choice("b", a, a), choice("a", a, a), choice("b", a, a)), []string{"a", "b"}}, {choice("b", choice("c", a, choice("B", a, a)), repeat(2, choice("b", a, choice("b1", a, a)))), []string{"B", "b", "b1", "c"}}, {choice("else", choice("A", a, a), choice("Z", a, a)), []string{"A", "Z", "else"}},
	} {
		names, e := program.Inputs(x.n)
		expect(t, "Inputs", names, e, x.names, api.OK)
	}
	for _, n := range programs() {
		names, e := program.Inputs(n)
		expect(t, "Inputs "+textOf(n), names, e, slices.Sorted(maps.Keys(namesIn(n))), api.OK)
	}
}

// namesIn returns the names in a program.
func namesIn(n api.Node) map[string]bool {
	names := map[string]bool{}
	for _, x := range n.Nodes {
		maps.Copy(names, namesIn(x))
	}
	if n.Kind == api.NodeChoose {
		names[n.Name] = true
	}
	return names
}

func TestSame(t *testing.T) {
	a, b := one("A+"), one("A-")
	l := []api.Node{
		a, b, one("A+ 5"), one("A+ B+"), one("B+"), {}, {Kind: 1}, {Kind: 4}, {Kind: -1}, {Count: 1}, {Name: "a"}, {Nodes: []api.Node{{}}}, {Nodes: []api.Node{{}, {}}}, {Nodes: []api.Node{{Nodes: []api.Node{{}}}}}, {Step: api.Step{Wait: 1}}, with(a, 1, "", a.Step), with(a, 0, "a", a.Step),
		list(a), list(b), list(a, b), list(b, a), list(a, b, a), list(list(a, b)), list(list(a), b), repeat(1, a), repeat(2, a), repeat(2, b), repeat(2, list(a)), choice("a", a, b), choice("b", a, b), choice("a", b, a), choice("a", a, list(b)), deep(15), deep(16), list(slices.Repeat([]api.Node{a}, 255)...), list(slices.Repeat([]api.Node{a}, 254)...),
	}
	for i, x := range l {
		for k, y := range l {
			same(t, fmt.Sprint("Same ", i, k), program.Same(x, copied(y)), i == k)
		}
	}
	for _, x := range []api.Node{deep(17), cyclic(api.NodeList), cyclic(7), list(slices.Repeat([]api.Node{a}, 256)...), list(make([]api.Node, 1<<20)...)} {
		same(t, "Same", program.Same(x, x), false)
		same(t, "Same", program.Same(x, a), false)
		same(t, "Same", program.Same(list(), x), false)
	}
	empty := api.Node{Step: api.Step{Strokes: []api.Stroke{}}, Nodes: []api.Node{}}
	same(t, "Same", program.Same(empty, api.Node{}), true)
}

// copied returns the same program in other memory.
func copied(n api.Node) api.Node {
	n.Step.Strokes = slices.Clone(n.Step.Strokes)
	n.Nodes = slices.Clone(n.Nodes)
	for i := range n.Nodes {
		n.Nodes[i] = copied(n.Nodes[i])
	}
	return n
}
