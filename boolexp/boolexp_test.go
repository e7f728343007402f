package boolexp_test

import (
	"math"
	"math/rand"
	"reflect"
	"slices"
	"strconv"
	"testing"

	"pneumatic/api"
	"pneumatic/boolexp"
	"pneumatic/truth"
)

func constant(index int) api.Expr { return api.Expr{Op: api.OpConst, Index: index} }

func variable(i int) api.Expr { return api.Expr{Op: api.OpVar, Index: i} }

func not(x api.Expr) api.Expr { return api.Expr{Op: api.OpNot, Args: []api.Expr{x}} }

func and(l ...api.Expr) api.Expr { return api.Expr{Op: api.OpAnd, Args: l} }

func or(l ...api.Expr) api.Expr { return api.Expr{Op: api.OpOr, Args: l} }

var none api.Expr

// show writes all fields of an expression.
func show(x api.Expr) string {
	s := strconv.Itoa(x.Op) + "." + strconv.Itoa(x.Index)
	if len(x.Args) == 0 {
		return s
	}
	s += "("
	for _, a := range x.Args {
		s += show(a) + " "
	}
	return s + ")"
}

func same[T comparable](t *testing.T, what string, got, expected T) {
	t.Helper()
	if got != expected {
		t.Errorf("%s: %v instead of %v", what, got, expected)
	}
}

func sameList(t *testing.T, what string, got, expected []int) {
	t.Helper()
	if !slices.Equal(got, expected) {
		t.Errorf("%s: %v instead of %v", what, got, expected)
	}
}

// sameExpr compares an expression and an error with what is expected.
func sameExpr(t *testing.T, what string, x api.Expr, e api.Errno, expected api.Expr, f api.Errno) {
	t.Helper()
	same(t, what, show(x), show(expected))
	same(t, "error of "+what, e, f)
}

// repeated returns Not, so many times, of an expression.
func repeated(k int, x api.Expr) api.Expr {
	for range k {
		x = not(x)
	}
	return x
}

// wide returns a conjunction of so many variables 0.
func wide(k int) api.Expr {
	var l []api.Expr
	for range k {
		l = append(l, variable(0))
	}
	return and(l...)
}

// endless returns an expression that is an argument of itself.
func endless(op int) api.Expr {
	x := api.Expr{Op: op, Args: make([]api.Expr, 2)}
	x.Args[0], x.Args[1] = x, variable(0)
	return x
}

// doubled returns an expression with 2^k leaves in little memory.
func doubled(k int) api.Expr {
	x := variable(0)
	for range k {
		x = and(x, x)
	}
	return x
}

// tooLarge has expressions with too many nodes, or too great a depth.
func tooLarge() []api.Expr {
	bad := api.Expr{Op: 99, Index: -1}
	return []api.Expr{
		wide(256), wide(100000), and(wide(127), wide(127)), repeated(16, variable(0)), repeated(16, bad), repeated(5000, variable(0)), or(variable(0), repeated(15, constant(1))), or(bad, repeated(15, constant(1))),
		endless(api.OpAnd), endless(api.OpNot), endless(99), doubled(8), doubled(15), doubled(60), {Op: api.OpConst, Args: make([]api.Expr, 256)}, {Op: -1, Args: make([]api.Expr, 1000)},
	}
}

// right has expressions of one variable.
func right() []api.Expr {
	return []api.Expr{none, constant(1), variable(0), not(constant(0)), not(not(variable(0))), and(constant(0), constant(1)), or(variable(0), variable(0), variable(0)), wide(255), and(wide(127), wide(126)), repeated(15, variable(0)), doubled(7), or(variable(0), repeated(14, constant(1)))}
}

// flaw is an expression with an error of Check for one variable.
type flaw struct {
	x api.Expr
	e api.Errno
}

// flawed has expressions that are not right for one variable, but not too large.
func flawed() []flaw {
	a, bad := variable(0), api.Expr{Op: api.Ops}
	return []flaw{
		{bad, api.ErrArg}, {api.Expr{Op: -1}, api.ErrArg}, {api.Expr{Op: math.MaxInt}, api.ErrArg}, {api.Expr{Op: math.MinInt}, api.ErrArg}, {api.Expr{Op: api.None}, api.ErrArg},
		{api.Expr{Op: api.Ops, Index: 7, Args: []api.Expr{a}}, api.ErrArg}, {not(bad), api.ErrArg}, {and(a, bad), api.ErrArg}, {or(a, not(a), not(bad)), api.ErrArg},

		{api.Expr{Op: api.OpConst, Args: []api.Expr{a}}, api.ErrForm}, {api.Expr{Op: api.OpConst, Index: 2, Args: []api.Expr{a, a}}, api.ErrForm}, {api.Expr{Op: api.OpVar, Args: []api.Expr{a}}, api.ErrForm}, {api.Expr{Op: api.OpVar, Index: 5, Args: []api.Expr{bad}}, api.ErrForm},
		{api.Expr{Op: api.OpNot}, api.ErrForm}, {api.Expr{Op: api.OpNot, Args: []api.Expr{a, a}}, api.ErrForm}, {api.Expr{Op: api.OpNot, Index: 1}, api.ErrForm}, {and(), api.ErrForm}, {and(a), api.ErrForm}, {or(), api.ErrForm}, {or(a), api.ErrForm}, {or(bad), api.ErrForm}, {api.Expr{Op: api.OpOr, Index: 1, Args: []api.Expr{a}}, api.ErrForm},

		{constant(2), api.ErrRange}, {constant(-1), api.ErrRange}, {constant(math.MaxInt), api.ErrRange}, {variable(1), api.ErrRange}, {variable(-1), api.ErrRange}, {variable(math.MinInt), api.ErrRange}, {variable(256), api.ErrRange},
		{api.Expr{Op: api.OpNot, Index: 1, Args: []api.Expr{a}}, api.ErrRange}, {api.Expr{Op: api.OpNot, Index: -1, Args: []api.Expr{bad}}, api.ErrRange}, {api.Expr{Op: api.OpAnd, Index: 1, Args: []api.Expr{a, bad}}, api.ErrRange}, {api.Expr{Op: api.OpOr, Index: -1, Args: []api.Expr{a, a}}, api.ErrRange},

		// The first node in preorder decides.
		{and(not(variable(1)), bad), api.ErrRange}, {and(bad, not(variable(1))), api.ErrArg}, {or(not(and(a)), bad), api.ErrForm}, {or(a, not(and(a, constant(2))), and()), api.ErrRange}, {or(a, and(), not(and(a, constant(2)))), api.ErrForm}, {and(or(a, a, constant(7)), variable(3), bad), api.ErrRange}, {and(or(a, a, and(a, or())), variable(3), bad), api.ErrForm},
	}
}

// P5.1

func TestCheck(t *testing.T) {
	for _, x := range right() {
		same(t, "Check "+show(x), boolexp.Check(x, 1), api.OK)
		same(t, "Check with more variables", boolexp.Check(x, api.MaxNodes), api.OK)
	}
	for _, f := range flawed() {
		same(t, "Check "+show(f.x), boolexp.Check(f.x, 1), f.e)
	}
	for _, x := range tooLarge() {
		same(t, "Check of one too large", boolexp.Check(x, 1), api.ErrMany)
		same(t, "Check of one too large", boolexp.Check(x, 0), api.ErrMany)
	}
	for _, n := range []int{-1, 257, 1000, api.None, math.MinInt, math.MaxInt} {
		for _, x := range append(append(right(), tooLarge()...), api.Expr{Op: 99}) {
			same(t, "Check with "+strconv.Itoa(n), boolexp.Check(x, n), api.ErrRange)
		}
	}
	for _, c := range []struct {
		i, n int
		e    api.Errno
	}{{0, 0, api.ErrRange}, {0, 1, api.OK}, {1, 1, api.ErrRange}, {1, 2, api.OK}, {254, 255, api.OK}, {255, 255, api.ErrRange}, {255, 256, api.OK}, {256, 256, api.ErrRange}} {
		same(t, "Check of a variable", boolexp.Check(variable(c.i), c.n), c.e)
		same(t, "Check of a variable inside", boolexp.Check(or(constant(0), not(variable(c.i))), c.n), c.e)
	}
	same(t, "Check of a constant without variables", boolexp.Check(constant(1), 0), api.OK)
	same(t, "Check with an empty list", boolexp.Check(api.Expr{Op: api.OpVar, Args: []api.Expr{}}, 1), api.OK)
}

// TestErrorsOfCheck looks at the functions whose errors are those of Check.
func TestErrorsOfCheck(t *testing.T) {
	l := flawed()
	for _, x := range tooLarge() {
		l = append(l, flaw{x, api.ErrMany})
	}
	for _, f := range l {
		v, e := boolexp.Eval(f.x, []bool{true})
		same(t, "Eval", v, false)
		same(t, "error of Eval", e, f.e)
		table, e := boolexp.Table(f.x, 1)
		same(t, "Table", table, api.Table{})
		same(t, "error of Table", e, f.e)
		i, e := boolexp.Variables(f.x, 1)
		sameList(t, "Variables", i, nil)
		same(t, "error of Variables", e, f.e)
		x, e := boolexp.Simplify(f.x, 1)
		sameExpr(t, "Simplify", x, e, none, f.e)
		x, e = boolexp.Substitute(f.x, []api.Expr{variable(0)}, 1)
		sameExpr(t, "Substitute", x, e, none, f.e)
		x, e = boolexp.Substitute(variable(0), []api.Expr{f.x}, 1)
		sameExpr(t, "Substitute of it", x, e, none, f.e)
		s, e := boolexp.Format(f.x, []string{"a"})
		same(t, "Format", s, "")
		same(t, "error of Format", e, f.e)
	}
	for _, n := range []int{-1, 257, api.None, math.MinInt, math.MaxInt} {
		for _, x := range []api.Expr{none, {Op: 99}, wide(300)} {
			_, e := boolexp.Variables(x, n)
			same(t, "error of Variables", e, api.ErrRange)
			_, e = boolexp.Simplify(x, n)
			same(t, "error of Simplify", e, api.ErrRange)
			_, e = boolexp.Substitute(none, []api.Expr{x}, n)
			same(t, "error of Substitute", e, api.ErrRange)
		}
	}
	for _, n := range []int{257, 100000} {
		v, e := boolexp.Eval(constant(1), make([]bool, n))
		same(t, "Eval", v, false)
		same(t, "error of Eval", e, api.ErrRange)
		_, e = boolexp.Substitute(api.Expr{Op: 99}, make([]api.Expr, n), 1)
		same(t, "error of Substitute", e, api.ErrRange)
	}
}

// value is the value of an expression where the variable i is bit i of a point, straight from the definition.
func value(x api.Expr, point int) bool {
	switch x.Op {
	case api.OpConst:
		return x.Index == 1
	case api.OpVar:
		return point>>x.Index&1 == 1
	case api.OpNot:
		return !value(x.Args[0], point)
	}
	all, some := true, false
	for _, a := range x.Args {
		v := value(a, point)
		all, some = all && v, some || v
	}
	return x.Op == api.OpAnd && all || x.Op == api.OpOr && some
}

// points has the values of variables at a point.
func points(point, n int) []bool {
	l := make([]bool, n)
	for i := range l {
		l[i] = point>>i&1 == 1
	}
	return l
}

// some returns an expression of n variables that is chosen at random, at most so deep.
func some(r *rand.Rand, n, depth int) api.Expr {
	k := r.Intn(10)
	switch {
	case depth == 1 || k < 3:
		if n == 0 || r.Intn(5) == 0 {
			return constant(r.Intn(2))
		}
		return variable(r.Intn(n))
	case k < 5:
		return not(some(r, n, depth-1))
	}
	x := api.Expr{Op: api.OpAnd + r.Intn(2)}
	for range 2 + r.Intn(3) {
		x.Args = append(x.Args, some(r, n, depth-1))
	}
	return x
}

// many returns expressions of n variables that are chosen at random, and not too large.
func many(n int) []api.Expr {
	r := rand.New(rand.NewSource(int64(50 + n)))
	var l []api.Expr
	for range 600 {
		x := some(r, n, 1+r.Intn(6))
		if nodes, depth := count(x); nodes <= api.MaxNodes && depth <= api.MaxDepth {
			l = append(l, x)
		}
	}
	return l
}

func TestValues(t *testing.T) {
	for n := range api.MaxVars + 1 {
		for _, x := range many(n) {
			expected := api.Table{N: n}
			for point := range 1 << n {
				v, e := boolexp.Eval(x, points(point, n))
				same(t, "Eval "+show(x), v, value(x, point))
				same(t, "error of Eval "+show(x), e, api.OK)
				if v {
					expected.Bits |= 1 << point
				}
			}
			table, e := boolexp.Table(x, n)
			same(t, "Table "+show(x), table, expected)
			same(t, "error of Table "+show(x), e, api.OK)
			same(t, "Check of the table", truth.Check(table), api.OK)
		}
	}
	values := make([]bool, 256)
	values[255] = true
	v, e := boolexp.Eval(and(variable(255), not(variable(254))), values)
	same(t, "Eval with many variables", v, true)
	same(t, "error of Eval with many variables", e, api.OK)
	_, e = boolexp.Eval(variable(0), nil)
	same(t, "error of Eval without values", e, api.ErrRange)
	v, e = boolexp.Eval(not(constant(0)), nil)
	same(t, "Eval without values", v, true)
	same(t, "error of Eval without values", e, api.OK)
}

func TestErrorsOfTable(t *testing.T) {
	for _, n := range []int{-1, 7, 256, 257, api.None, math.MinInt, math.MaxInt} {
		for _, x := range []api.Expr{none, variable(0), {Op: 99}, wide(300), endless(api.OpOr)} {
			table, e := boolexp.Table(x, n)
			same(t, "Table", table, api.Table{})
			same(t, "error of Table", e, api.ErrRange)
		}
	}
	_, e := boolexp.Table(variable(6), 6)
	same(t, "error of Table", e, api.ErrRange)
	table, e := boolexp.Table(variable(5), 6)
	same(t, "Table", table, api.Table{N: 6, Bits: math.MaxUint32 << 32})
	same(t, "error of Table", e, api.OK)
}

// indices returns the variables that occur in an expression, in any order.
func indices(x api.Expr) map[int]bool {
	found := map[int]bool{}
	if x.Op == api.OpVar {
		found[x.Index] = true
	}
	for _, a := range x.Args {
		for i := range indices(a) {
			found[i] = true
		}
	}
	return found
}

func TestVariables(t *testing.T) {
	for n := range api.MaxVars + 1 {
		for _, x := range many(n) {
			var expected []int
			for i := range indices(x) {
				expected = append(expected, i)
			}
			slices.Sort(expected)
			l, e := boolexp.Variables(x, n)
			sameList(t, "Variables "+show(x), l, expected)
			same(t, "error of Variables "+show(x), e, api.OK)
		}
	}
	// A variable occurs even where the function does not depend on it.
	l, e := boolexp.Variables(or(variable(200), and(variable(3), constant(0)), variable(200), not(variable(17))), 256)
	sameList(t, "Variables", l, []int{3, 17, 200})
	same(t, "error of Variables", e, api.OK)
}

// count returns the number of nodes and the depth, straight from the definition.
func count(x api.Expr) (nodes, depth int) {
	for _, a := range x.Args {
		n, d := count(a)
		nodes, depth = nodes+n, max(depth, d)
	}
	return nodes + 1, depth + 1
}

func TestSize(t *testing.T) {
	l := right()
	for n := range api.MaxVars + 1 {
		l = append(l, many(n)...)
	}
	// Nodes are counted whether they are right or not.
	for _, f := range flawed() {
		l = append(l, f.x)
	}
	l = append(l, api.Expr{Op: 99, Args: make([]api.Expr, 255)}, api.Expr{Op: api.OpConst, Args: []api.Expr{repeated(14, api.Expr{Op: -7})}})
	for _, x := range l {
		n, d := count(x)
		nodes, depth, e := boolexp.Size(x)
		same(t, "nodes of "+show(x), nodes, n)
		same(t, "depth of "+show(x), depth, d)
		same(t, "error of Size "+show(x), e, api.OK)
	}
	for _, c := range []struct {
		x            api.Expr
		nodes, depth int
	}{{none, 1, 1}, {not(variable(3)), 2, 2}, {and(variable(0), not(or(variable(1), variable(2)))), 6, 4}, {wide(255), 256, 2}, {repeated(15, none), 16, 16}} {
		nodes, depth, e := boolexp.Size(c.x)
		same(t, "nodes", nodes, c.nodes)
		same(t, "depth", depth, c.depth)
		same(t, "error of Size", e, api.OK)
	}
	for _, x := range tooLarge() {
		nodes, depth, e := boolexp.Size(x)
		same(t, "nodes of one too large", nodes, 0)
		same(t, "depth of one too large", depth, 0)
		same(t, "error of Size of one too large", e, api.ErrMany)
	}
}

func TestSame(t *testing.T) {
	var l []api.Expr
	for n := range 4 {
		l = append(l, many(n)[:60]...)
	}
	for _, f := range flawed() {
		l = append(l, f.x)
	}
	l = append(l, right()...)
	for _, a := range l {
		for _, b := range l {
			same(t, "Same "+show(a)+" "+show(b), boolexp.Same(a, b), show(a) == show(b))
		}
	}
	for _, x := range tooLarge() {
		same(t, "Same of one too large", boolexp.Same(x, x), false)
		same(t, "Same of one too large", boolexp.Same(x, none), false)
		same(t, "Same of one too large", boolexp.Same(variable(0), x), false)
		same(t, "Same of one too large", boolexp.Same(x, endless(api.OpAnd)), false)
	}
	same(t, "Same with an empty list", boolexp.Same(none, api.Expr{Args: []api.Expr{}}), true)
	same(t, "Same in another order", boolexp.Same(and(variable(0), variable(1)), and(variable(1), variable(0))), false)
	same(t, "Same with more arguments", boolexp.Same(and(variable(0), variable(1)), and(variable(0), variable(1), variable(1))), false)
	same(t, "Same with another index", boolexp.Same(not(variable(0)), api.Expr{Op: api.OpNot, Index: 1, Args: []api.Expr{variable(0)}}), false)
}

// P1

// junk returns an expression of any form.
func junk(r *rand.Rand, depth int) api.Expr {
	x := api.Expr{Op: r.Intn(api.Ops+2) - 1, Index: r.Intn(4) - 1}
	if depth > 1 {
		for range r.Intn(4) {
			x.Args = append(x.Args, junk(r, depth-1))
		}
	}
	return x
}

func TestArgumentsOfAnyForm(t *testing.T) {
	r := rand.New(rand.NewSource(58))
	for range 3000 {
		x, y, n := junk(r, 1+r.Intn(5)), junk(r, 3), r.Intn(10)-2
		values := make([]bool, max(n, 0))
		names := []string{"a", "b", "c"}[:r.Intn(4)]
		e := boolexp.Check(x, n)
		if n >= 0 {
			_, f := boolexp.Eval(x, values)
			same(t, "error of Eval", f, e)
		}
		_, f := boolexp.Simplify(x, n)
		same(t, "error of Simplify", f, e)
		_, f = boolexp.Variables(x, n)
		same(t, "error of Variables", f, e)
		if n <= api.MaxVars {
			_, f = boolexp.Table(x, n)
			same(t, "error of Table", f, e)
		}
		_, f = boolexp.Format(x, names)
		same(t, "error of Format", f, boolexp.Check(x, len(names)))
		_, f = boolexp.Substitute(x, []api.Expr{y}, n)
		expected := boolexp.Check(x, 1)
		if expected == api.OK {
			expected = boolexp.Check(y, n)
		}
		if f != api.ErrMany {
			same(t, "error of Substitute", f, expected)
		}
		same(t, "Same", boolexp.Same(x, y), reflect.DeepEqual(x, y))
	}
}

// slots returns the memory of all nodes of an expression but itself.
func slots(x api.Expr) []*api.Expr {
	var l []*api.Expr
	for i := range x.Args {
		l = append(append(l, &x.Args[i]), slots(x.Args[i])...)
	}
	return l
}

// testMemory checks that a result has no memory in common with arguments, nor twice in itself.
func testMemory(t *testing.T, what string, result api.Expr, arguments ...api.Expr) {
	t.Helper()
	used := map[*api.Expr]bool{}
	for _, x := range arguments {
		for _, slot := range slots(x) {
			used[slot] = true
		}
	}
	for _, slot := range slots(result) {
		if used[slot] {
			t.Fatalf("%s: memory is shared", what)
		}
		used[slot] = true
	}
}

func TestMemory(t *testing.T) {
	names := []string{"a", "b", "c"}
	l := many(3)
	for i, x := range l {
		before := show(x)
		simple, _ := boolexp.Simplify(x, 3)
		testMemory(t, "Simplify", simple, x)
		put := []api.Expr{l[(i+1)%len(l)], l[(i+2)%len(l)], l[(i+3)%len(l)]}
		y, _ := boolexp.Substitute(x, put, 3)
		testMemory(t, "Substitute", y, append(put, x)...)
		text, _ := boolexp.Format(x, names)
		read, _, _ := boolexp.Parse(text, names)
		testMemory(t, "Parse", read, x)
		same(t, "argument", show(x), before)
	}
	shared := or(variable(0), not(variable(1)))
	x := and(shared, not(shared), or(shared, variable(2)))
	y, e := boolexp.Substitute(x, []api.Expr{shared, shared, not(shared)}, 2)
	same(t, "error of Substitute", e, api.OK)
	testMemory(t, "Substitute", y, x, shared)
	y, e = boolexp.Simplify(or(not(shared), and(not(shared), variable(2)), and(not(shared), variable(3))), 4)
	same(t, "error of Simplify", e, api.OK)
	testMemory(t, "Simplify", y, shared)
	same(t, "argument", show(shared), show(or(variable(0), not(variable(1)))))
	same(t, "names", slices.Equal(names, []string{"a", "b", "c"}), true)
}
