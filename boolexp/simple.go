package boolexp

import (
	"iter"
	"slices"

	"pneumatic/api"
)

// simples makes the simple form of an expression.
func simples() meaning[api.Expr] {
	m := copies()
	m[api.OpNot].join = func(args []api.Expr) api.Expr { return opposite(args[0]) }
	m[api.OpAnd].join = func(args []api.Expr) api.Expr { return join(api.OpAnd, 1, args) }
	m[api.OpOr].join = func(args []api.Expr) api.Expr { return join(api.OpOr, 0, args) }
	return m
}

// opposite returns the simple form of the negation of a simple form.
func opposite(x api.Expr) api.Expr {
	switch x.Op {
	case api.OpConst:
		return constant(1 - x.Index)
	case api.OpNot:
		return x.Args[0]
	default:
		return api.Expr{Op: api.OpNot, Args: []api.Expr{x}}
	}
}

// join returns the simple form of a conjunction or disjunction of simple forms. Its neutral constant changes nothing, and the other one decides alone.
func join(op, neutral int, args []api.Expr) api.Expr {
	var l []api.Expr
	for x := range taken(op, args) {
		if equal(x, constant(neutral)) || has(l, x) {
			continue
		}
		if equal(x, constant(1-neutral)) || oppose(l, x) {
			return constant(1 - neutral)
		}
		l = append(l, x)
	}
	switch len(l) {
	case 0:
		return constant(neutral)
	case 1:
		return l[0]
	default:
		return api.Expr{Op: op, Args: l}
	}
}

// taken yields arguments, and in place of those with the operation op theirs. (In simple forms these have another operation.)
func taken(op int, args []api.Expr) iter.Seq[api.Expr] {
	return func(yield func(api.Expr) bool) {
		for _, x := range args {
			inner := []api.Expr{x}
			if x.Op == op {
				inner = x.Args
			}
			for _, y := range inner {
				if !yield(y) {
					return
				}
			}
		}
	}
}

// constant returns the expression of a constant.
func constant(index int) api.Expr {
	return api.Expr{Op: api.OpConst, Index: index}
}

// has reports whether an expression is in a list.
func has(l []api.Expr, x api.Expr) bool {
	return slices.ContainsFunc(l, func(y api.Expr) bool { return equal(x, y) })
}

// oppose reports whether an expression in a list is the negation of x, or x the negation of one.
func oppose(l []api.Expr, x api.Expr) bool {
	return has(l, opposite(x))
}
