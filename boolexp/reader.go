package boolexp

import (
	"slices"

	"pneumatic/api"
)

// reader reads an expression from the left to the right. When something is wrong, it remains at the place where it is.
type reader struct {
	text  string
	names []string
	at    int
}

// Parse returns the expression with a text, or the offset of the first error.
func Parse(text string, names []string) (api.Expr, int, api.Errno) {
	if e := checkNames(names); e != api.OK {
		return api.Expr{}, 0, e
	}
	if len(text) > api.MaxText {
		return api.Expr{}, 0, api.ErrLong
	}
	r := &reader{text: text, names: names}
	x, e := r.whole()
	if e != api.OK {
		return api.Expr{}, r.at, e
	}
	if _, _, e := Size(x); e != api.OK {
		return api.Expr{}, 0, e
	}
	return x, 0, api.OK
}

// whole reads an expression up to the end of the text.
func (r *reader) whole() (api.Expr, api.Errno) {
	x, e := r.disjunction()
	if e == api.OK && r.at < len(r.text) {
		return api.Expr{}, api.ErrSyntax
	}
	return x, e
}

// disjunction reads conjunctions with | between.
func (r *reader) disjunction() (api.Expr, api.Errno) {
	return r.arguments(api.OpOr, '|', r.conjunction)
}

// conjunction reads operands with & between.
func (r *reader) conjunction() (api.Expr, api.Errno) {
	return r.arguments(api.OpAnd, '&', r.operand)
}

// arguments reads what is read by a function, once or several times with the sign of an operation between.
func (r *reader) arguments(op int, sign byte, read func() (api.Expr, api.Errno)) (api.Expr, api.Errno) {
	x, e := read()
	l := []api.Expr{x}
	for e == api.OK && r.take(sign) {
		x, e = read()
		l = append(l, x)
	}
	if e != api.OK {
		return api.Expr{}, e
	}
	if len(l) == 1 {
		return l[0], api.OK
	}
	return api.Expr{Op: op, Args: l}, api.OK
}

// operand reads what stands between the signs of conjunctions and disjunctions.
func (r *reader) operand() (api.Expr, api.Errno) {
	switch {
	case r.take('!'):
		x, e := r.operand()
		return api.Expr{Op: api.OpNot, Args: []api.Expr{x}}, e
	case r.take('('):
		x, e := r.disjunction()
		if e == api.OK && !r.take(')') {
			return api.Expr{}, api.ErrSyntax
		}
		return x, e
	case r.take('0'):
		return constant(0), api.OK
	case r.take('1'):
		return constant(1), api.OK
	default:
		return r.variable()
	}
}

// variable reads a name.
func (r *reader) variable() (api.Expr, api.Errno) {
	name := word(r.text[r.at:])
	if name == "" {
		return api.Expr{}, api.ErrSyntax
	}
	i := slices.Index(r.names, name)
	if i < 0 {
		return api.Expr{}, api.ErrNone
	}
	r.at += len(name)
	return api.Expr{Op: api.OpVar, Index: i}, api.OK
}

// take goes over spaces, and over a sign if it stands behind them; it reports whether it does.
func (r *reader) take(sign byte) bool {
	for r.at < len(r.text) && r.text[r.at] == ' ' {
		r.at++
	}
	if r.at == len(r.text) || r.text[r.at] != sign {
		return false
	}
	r.at++
	return true
}
