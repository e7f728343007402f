package boolexp_test

import (
	"math/rand"
	"slices"
	"testing"

	"pneumatic/api"
	"pneumatic/boolexp"
)

// P5.3

func TestSimpleFormsAreSimple(t *testing.T) {
	for n := range api.MaxVars + 1 {
		for _, x := range many(n) {
			y, _ := boolexp.Simplify(x, n)
			before, e := boolexp.Table(x, n)
			same(t, "error of Table", e, api.OK)
			after, e := boolexp.Table(y, n)
			same(t, "error of Table", e, api.OK)
			same(t, "function of Simplify "+show(x), after, before)
			z, e := boolexp.Simplify(y, n)
			sameExpr(t, "Simplify twice "+show(x), z, e, y, api.OK)
			same(t, "Same", boolexp.Same(y, z), true)
			nodes, depth, _ := boolexp.Size(x)
			fewer, lower, _ := boolexp.Size(y)
			same(t, "fewer nodes of Simplify "+show(x), fewer <= nodes && lower <= depth, true)
		}
	}
}

func TestTextsAreReadBack(t *testing.T) {
	names := []string{"a", "b1", "C_", "start", "A", "Z9"}
	for n := range api.MaxVars + 1 {
		for _, x := range append(many(n), right()...) {
			if boolexp.Check(x, n) != api.OK {
				continue
			}
			s, e := boolexp.Format(x, names[:n])
			same(t, "error of Format "+show(x), e, api.OK)
			y, at, e := boolexp.Parse(s, names[:n])
			sameExpr(t, "Parse "+s, y, e, x, api.OK)
			same(t, "offset of "+s, at, 0)
			same(t, "Same "+s, boolexp.Same(x, y), true)
		}
	}
}

func TestSubstitutesAreValues(t *testing.T) {
	r := rand.New(rand.NewSource(61))
	for n := range api.MaxVars + 1 {
		put := many(n)
		for _, x := range many(4) {
			var l []api.Expr
			for range 4 {
				l = append(l, put[r.Intn(len(put))])
			}
			y, e := boolexp.Substitute(x, l, n)
			if e == api.ErrMany {
				continue
			}
			same(t, "error of Substitute", e, api.OK)
			for point := range 1 << n {
				var values []bool
				for _, a := range l {
					v, _ := boolexp.Eval(a, points(point, n))
					values = append(values, v)
				}
				inside, _ := boolexp.Eval(x, values)
				outside, e := boolexp.Eval(y, points(point, n))
				same(t, "Eval of Substitute "+show(x), outside, inside)
				same(t, "error of Eval", e, api.OK)
			}
		}
	}
}

func TestOtherVariablesDoNotMatter(t *testing.T) {
	for n := range api.MaxVars + 1 {
		for _, x := range many(n) {
			l, _ := boolexp.Variables(x, n)
			for i := range n {
				if slices.Contains(l, i) {
					continue
				}
				for point := range 1 << n {
					v, _ := boolexp.Eval(x, points(point, n))
					w, _ := boolexp.Eval(x, points(point^1<<i, n))
					same(t, "Eval "+show(x), v, w)
				}
			}
		}
	}
}
