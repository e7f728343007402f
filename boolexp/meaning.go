package boolexp

import (
	"slices"

	"pneumatic/api"
	"pneumatic/truth"
)

// deed is what is made of the nodes with an operation: of the index of one without arguments, or of what was made of the arguments of another one. Each operation has just one of both.
type deed[T any] struct {
	leaf func(index int) T
	join func(args []T) T
}

// meaning has the deed of each operation.
type meaning[T any] [api.Ops]deed[T]

// fold returns what a meaning makes of an expression that was checked, from its arguments to the outside.
func fold[T any](x api.Expr, m meaning[T]) T {
	if len(x.Args) == 0 {
		return m[x.Op].leaf(x.Index)
	}
	var args []T
	for _, a := range x.Args {
		args = append(args, fold(a, m))
	}
	return m[x.Op].join(args)
}

// truths finds the value of an expression where the variables have some values.
func truths(values []bool) meaning[bool] {
	return meaning[bool]{
		api.OpConst: {leaf: func(index int) bool { return index == 1 }},
		api.OpVar:   {leaf: func(index int) bool { return values[index] }},
		api.OpNot:   {join: func(args []bool) bool { return !args[0] }},
		api.OpAnd:   {join: func(args []bool) bool { return !slices.Contains(args, false) }},
		api.OpOr:    {join: func(args []bool) bool { return slices.Contains(args, true) }},
	}
}

// tables finds the function of an expression of n variables.
func tables(n int) meaning[api.Table] {
	return meaning[api.Table]{
		api.OpConst: {leaf: func(index int) api.Table { return sure(truth.Const(n, index == 1)) }},
		api.OpVar:   {leaf: func(index int) api.Table { return sure(truth.Var(n, index)) }},
		api.OpNot:   {join: func(args []api.Table) api.Table { return sure(truth.Not(args[0])) }},
		api.OpAnd:   {join: chained(truth.And)},
		api.OpOr:    {join: chained(truth.Or)},
	}
}

// sure returns the table of a call that has no error, since the expression was checked.
func sure(t api.Table, _ api.Errno) api.Table {
	return t
}

// chained makes an operation on two tables one on several.
func chained(operation func(a, b api.Table) (api.Table, api.Errno)) func([]api.Table) api.Table {
	return func(args []api.Table) api.Table {
		t := args[0]
		for _, a := range args[1:] {
			t = sure(operation(t, a))
		}
		return t
	}
}

// copies makes an expression anew, in memory of its own.
func copies() meaning[api.Expr] {
	var m meaning[api.Expr]
	for op := range m {
		if isLeaf(op) {
			m[op].leaf = func(index int) api.Expr { return api.Expr{Op: op, Index: index} }
		} else {
			m[op].join = func(args []api.Expr) api.Expr { return api.Expr{Op: op, Args: args} }
		}
	}
	return m
}
