package implicant

import (
	"cmp"
	"iter"

	"pneumatic/api"
	"pneumatic/truth"
)

// opposed returns the bits of the variables for which two cubes ask for both values.
func opposed(a, b api.Cube) uint {
	return a.Care & b.Care & (a.Value ^ b.Value)
}

// joined returns the cube with the conditions of two cubes.
func joined(a, b api.Cube) api.Cube {
	return api.Cube{Care: a.Care | b.Care, Value: a.Value | b.Value}
}

// without returns a cube without its conditions for some variables.
func without(c api.Cube, variables uint) api.Cube {
	return api.Cube{Care: c.Care &^ variables, Value: c.Value &^ variables}
}

// order compares cubes by Care, and then by Value.
func order(a, b api.Cube) int {
	return cmp.Or(cmp.Compare(a.Care, b.Care), cmp.Compare(a.Value, b.Value))
}

// cubes yields all cubes of n variables: each one of the variables before the last one, without a condition for that, and with both.
func cubes(n int) iter.Seq[api.Cube] {
	return func(yield func(api.Cube) bool) {
		if n == 0 {
			yield(api.Cube{})
			return
		}
		last := uint(1) << (n - 1)
		for c := range cubes(n - 1) {
			for _, condition := range [3]api.Cube{{}, {Care: last}, {Care: last, Value: last}} {
				if !yield(joined(c, condition)) {
					return
				}
			}
		}
	}
}

// table returns the function that is true in a cube of n variables. (The calls of package truth have no errors then.)
func table(n int, c api.Cube) api.Table {
	t, _ := truth.Const(n, true)
	for i := range n {
		if c.Care>>i&1 == 0 {
			continue
		}
		literal, _ := truth.Var(n, i)
		if c.Value>>i&1 == 0 {
			literal, _ = truth.Not(literal)
		}
		t, _ = truth.And(t, literal)
	}
	return t
}
