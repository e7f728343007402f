package boolexp_test

import (
	"math/rand"
	"slices"
	"strconv"
	"strings"
	"testing"

	"pneumatic/api"
	"pneumatic/boolexp"
)

func abc() []string { return []string{"a", "b", "c"} }

// P5.2

// substituted puts expressions in place of variables, straight from the definition.
func substituted(x api.Expr, l []api.Expr) api.Expr {
	if x.Op == api.OpVar {
		return l[x.Index]
	}
	y := api.Expr{Op: x.Op, Index: x.Index}
	for _, a := range x.Args {
		y.Args = append(y.Args, substituted(a, l))
	}
	return y
}

func TestSubstitute(t *testing.T) {
	r := rand.New(rand.NewSource(59))
	for n := range 5 {
		put := many(n)
		for _, x := range many(3) {
			l := []api.Expr{put[r.Intn(len(put))], put[r.Intn(len(put))], put[r.Intn(len(put))]}
			expected, f := substituted(x, l), api.OK
			if nodes, depth := count(expected); nodes > api.MaxNodes || depth > api.MaxDepth {
				expected, f = none, api.ErrMany
			}
			y, e := boolexp.Substitute(x, l, n)
			sameExpr(t, "Substitute "+show(x), y, e, expected, f)
		}
	}
	// A negation or conjunction remains what it is, whatever is put in.
	y, e := boolexp.Substitute(not(variable(0)), []api.Expr{not(variable(4))}, 5)
	sameExpr(t, "Substitute", y, e, not(not(variable(4))), api.OK)
	y, e = boolexp.Substitute(and(variable(1), variable(0)), []api.Expr{and(variable(0), variable(1)), constant(1)}, 2)
	sameExpr(t, "Substitute", y, e, and(constant(1), and(variable(0), variable(1))), api.OK)
	// Without a variable there is no expression to be checked.
	y, e = boolexp.Substitute(constant(1), nil, -1)
	sameExpr(t, "Substitute without variables", y, e, constant(1), api.OK)
}

func TestErrorsOfSubstitute(t *testing.T) {
	a, bad := variable(0), api.Expr{Op: 99}
	for i, c := range []struct {
		x api.Expr
		l []api.Expr
		n int
		e api.Errno
	}{
		{bad, []api.Expr{wide(300)}, 300, api.ErrArg}, {and(), []api.Expr{bad}, 1, api.ErrForm}, {variable(2), []api.Expr{bad, bad}, 1, api.ErrRange}, {a, nil, 1, api.ErrRange},
		{a, []api.Expr{bad}, -1, api.ErrRange}, {a, []api.Expr{bad}, 257, api.ErrRange}, {a, []api.Expr{bad, and()}, 1, api.ErrArg}, {a, []api.Expr{and(), bad}, 1, api.ErrForm}, {a, []api.Expr{a, variable(1)}, 1, api.ErrRange}, {a, []api.Expr{a, wide(256)}, 1, api.ErrMany}, {constant(0), []api.Expr{bad}, 1, api.ErrArg},
		{and(a, a), []api.Expr{wide(127)}, 1, api.ErrMany}, {and(a, variable(1)), []api.Expr{wide(126), wide(127)}, 1, api.OK}, {and(a, variable(1)), []api.Expr{wide(127), wide(127)}, 1, api.ErrMany}, {wide(255), []api.Expr{wide(255)}, 1, api.ErrMany},
		{repeated(7, a), []api.Expr{repeated(8, a)}, 1, api.OK}, {repeated(8, a), []api.Expr{repeated(8, a)}, 1, api.ErrMany}, {repeated(15, a), []api.Expr{repeated(15, a)}, 1, api.ErrMany}, {repeated(15, a), []api.Expr{constant(1), repeated(15, a)}, 1, api.OK}, {repeated(15, variable(255)), make([]api.Expr, 256), 256, api.OK}, {a, make([]api.Expr, 257), 1, api.ErrRange},
	} {
		y, e := boolexp.Substitute(c.x, c.l, c.n)
		same(t, "error of Substitute "+strconv.Itoa(i), e, c.e)
		if e != api.OK {
			same(t, "Substitute "+strconv.Itoa(i), show(y), show(none))
		}
	}
}

// shape is an expression whose arguments are texts, in which the simple form is found straight from the definition.
type shape struct {
	op   string
	args []string
	text string
}

// simple returns the simple form of an expression; equal ones have the same text.
func simple(x api.Expr) shape {
	var l []shape
	for _, a := range x.Args {
		l = append(l, simple(a))
	}
	switch x.Op {
	case api.OpConst:
		return shape{"const", nil, strconv.Itoa(x.Index)}
	case api.OpVar:
		return shape{"var", nil, "x" + strconv.Itoa(x.Index)}
	case api.OpNot:
		switch {
		case l[0].op == "const":
			return shape{"const", nil, map[string]string{"0": "1", "1": "0"}[l[0].text]}
		case l[0].op == "not":
			return parts[l[0].args[0]]
		}
		return made("not", []string{l[0].text}, l[0])
	case api.OpAnd:
		return gathered("and", "1", "0", l)
	}
	return gathered("or", "0", "1", l)
}

// parts has the shapes of which others were made, by their texts.
var parts = map[string]shape{}

func made(op string, args []string, l ...shape) shape {
	for _, a := range l {
		parts[a.text] = a
	}
	return shape{op, args, op + "(" + strings.Join(args, ",") + ")"}
}

func gathered(op, neutral, decides string, l []shape) shape {
	var all []string
	for _, a := range l {
		parts[a.text] = a
		if a.op == op {
			all = append(all, a.args...)
		} else {
			all = append(all, a.text)
		}
	}
	var args []string
	for i, a := range all {
		if a != neutral && !slices.Contains(all[:i], a) {
			args = append(args, a)
		}
	}
	for _, a := range args {
		if a == decides || slices.Contains(args, "not("+a+")") {
			return shape{"const", nil, decides}
		}
	}
	switch len(args) {
	case 0:
		return shape{"const", nil, neutral}
	case 1:
		return parts[args[0]]
	}
	return made(op, args)
}

// outline writes an expression as the shapes are written.
func outline(x api.Expr) string {
	var l []string
	for _, a := range x.Args {
		l = append(l, outline(a))
	}
	switch x.Op {
	case api.OpConst:
		return strconv.Itoa(x.Index)
	case api.OpVar:
		return "x" + strconv.Itoa(x.Index)
	}
	return []string{api.OpNot: "not", api.OpAnd: "and", api.OpOr: "or"}[x.Op] + "(" + strings.Join(l, ",") + ")"
}

func TestSimplify(t *testing.T) {
	for n := range 5 {
		for _, x := range many(n) {
			y, e := boolexp.Simplify(x, n)
			same(t, "Simplify "+show(x), outline(y), simple(x).text)
			same(t, "error of Simplify "+show(x), e, api.OK)
			same(t, "Check of Simplify "+show(x), boolexp.Check(y, n), api.OK)
		}
	}
	for from, to := range map[string]string{
		"0": "0", "1": "1", "a": "a", "!0": "1", "!1": "0", "!a": "!a", "!!a": "a", "!!!a": "!a", "!!0": "0", "!(a & 0)": "1", "!(a & b)": "!(a & b)", "!!(a | b)": "a | b", "!(a | a)": "!a", "!(!a & !a)": "a",
		"a & b": "a & b", "b & a": "b & a", "a & a": "a", "a & 1": "a", "1 & 1": "1", "a & 0": "0", "0 & a & !a": "0", "a & !a": "0", "!a & a": "0", "!a & b & a": "0", "a & b & !a": "0", "a & b & a & c & b": "a & b & c",
		"a | b": "a | b", "a | a": "a", "a | 0": "a", "0 | 0": "0", "a | 1": "1", "a | !a": "1", "!a | b | a": "1", "c | b | a | b | c": "c | b | a",
		"a & (b & c)": "a & b & c", "(a & b) & (c & a)": "a & b & c", "(a & (b & (c & 1)))": "a & b & c", "(a | b) | (b | c)": "a | b | c", "a & (b & 1) & a": "a & b",
		"(a & b) | (b & a)": "a & b | b & a", "(a & b) | (a & b)": "a & b", "a & b | !(a & b)": "1", "(a | b) & !(a | b)": "0", "(a | b) & !(b | a)": "(a | b) & !(b | a)", "!(a & b) & a & b": "!(a & b) & a & b", "(a | b) & a": "(a | b) & a",
		"(a | 0) & (b | 0)": "a & b", "(a & 1) | (b | c)": "a | b | c", "a & (b | 1)": "a", "(a & !a) | b": "b", "(a | !a) & (b | !b)": "1", "!(a & !a) & b": "b", "a & !(b & 0) & (c | c)": "a & c", "a & !(b | !(c & a))": "a & !(b | !(c & a))", "!!(a & b) & c": "a & b & c", "!(!(a | b)) | c": "a | b | c", "(a & b | 0) & c": "a & b & c",
	} {
		x, _, e := boolexp.Parse(from, abc())
		same(t, "error of Parse "+from, e, api.OK)
		y, e := boolexp.Simplify(x, 3)
		same(t, "error of Simplify "+from, e, api.OK)
		s, e := boolexp.Format(y, abc())
		same(t, "Simplify "+from, s, to)
		same(t, "error of Format "+from, e, api.OK)
	}
}

// wrongNames has lists of names with their errors.
func wrongNames() []struct {
	l []string
	e api.Errno
} {
	long := strings.Repeat("x", 24)
	return []struct {
		l []string
		e api.Errno
	}{
		{make([]string, 257), api.ErrMany}, {numbered(257), api.ErrMany}, {append(numbered(256), "?"), api.ErrMany},
		{[]string{""}, api.ErrForm}, {[]string{"0"}, api.ErrForm}, {[]string{"1a"}, api.ErrForm}, {[]string{"_"}, api.ErrForm}, {[]string{"_a"}, api.ErrForm}, {[]string{"a b"}, api.ErrForm}, {[]string{" a"}, api.ErrForm}, {[]string{"a "}, api.ErrForm}, {[]string{"a-b"}, api.ErrForm}, {[]string{"a\n"}, api.ErrForm}, {[]string{"é"}, api.ErrForm}, {[]string{"aé"}, api.ErrForm}, {[]string{"a\x00"}, api.ErrForm}, {[]string{"a\xff"}, api.ErrForm}, {[]string{"@"}, api.ErrForm}, {[]string{"["}, api.ErrForm}, {[]string{"`"}, api.ErrForm}, {[]string{"{"}, api.ErrForm}, {[]string{"a/"}, api.ErrForm}, {[]string{"a:"}, api.ErrForm}, {[]string{"!a"}, api.ErrForm}, {[]string{"(a)"}, api.ErrForm}, {[]string{long + "x "}, api.ErrForm}, {[]string{strings.Repeat("-", 30)}, api.ErrForm},
		{[]string{long + "x"}, api.ErrLong}, {[]string{"a", strings.Repeat("a", 100000)}, api.ErrLong}, {[]string{long + "x", ""}, api.ErrLong}, {[]string{"", long + "x"}, api.ErrForm}, {[]string{long + "x", long + "x"}, api.ErrLong},
		{[]string{"a", "a"}, api.ErrTwice}, {[]string{"a", "b", "a", ""}, api.ErrTwice}, {[]string{"a", "", "a"}, api.ErrForm}, {[]string{long, "b", long, long + "x"}, api.ErrTwice}, {append(numbered(255), "n0"), api.ErrTwice}, {append(numbered(255), "n254"), api.ErrTwice},
	}
}

// numbered returns n names.
func numbered(n int) []string {
	var l []string
	for i := range n {
		l = append(l, "n"+strconv.Itoa(i))
	}
	return l
}

func TestNames(t *testing.T) {
	for _, c := range wrongNames() {
		for _, x := range []api.Expr{none, {Op: 99}, wide(300)} {
			s, e := boolexp.Format(x, c.l)
			same(t, "Format", s, "")
			same(t, "error of Format", e, c.e)
		}
		for _, text := range []string{"0", "", "a", "?", strings.Repeat("x", 5000)} {
			x, at, e := boolexp.Parse(text, c.l)
			sameExpr(t, "Parse "+text[:min(len(text), 9)], x, e, none, c.e)
			same(t, "offset", at, 0)
		}
	}
	for _, name := range []string{"a", "Z", "z", "A", "a1", "a_", "a__9", "x0y", "B_1", strings.Repeat("y", 24), "q" + strings.Repeat("_", 23)} {
		s, e := boolexp.Format(variable(1), []string{"other", name})
		same(t, "Format "+name, s, name)
		same(t, "error of Format "+name, e, api.OK)
		x, at, e := boolexp.Parse(name, []string{"other", name})
		sameExpr(t, "Parse "+name, x, e, variable(1), api.OK)
		same(t, "offset of "+name, at, 0)
	}
	s, e := boolexp.Format(or(variable(255), variable(0)), numbered(256))
	same(t, "Format", s, "n255 | n0")
	same(t, "error of Format", e, api.OK)
	s, e = boolexp.Format(variable(1), []string{"A", "a"})
	same(t, "Format", s, "a")
	same(t, "error of Format", e, api.OK)
}

func TestFormat(t *testing.T) {
	a, b, c := variable(0), variable(1), variable(2)
	for s, x := range map[string]api.Expr{
		"0": constant(0), "1": constant(1), "a": a, "!a": not(a), "!!a": not(not(a)), "!0": not(constant(0)), "a & b": and(a, b), "a | b": or(a, b), "a & b & c": and(a, b, c), "a | b | c": or(a, b, c), "a & 1 & a": and(a, constant(1), a),
		"!(a & b)": not(and(a, b)), "!(a | b)": not(or(a, b)), "!a & !b": and(not(a), not(b)), "!!(a | b)": not(not(or(a, b))),
		"a & (b & c)": and(a, and(b, c)), "(a & b) & c": and(and(a, b), c), "a & (b | c)": and(a, or(b, c)), "(a | b) & c": and(or(a, b), c), "a | b & c": or(a, and(b, c)), "a & b | c": or(and(a, b), c), "a | (b | c)": or(a, or(b, c)), "(a | b) | c": or(or(a, b), c), "a & b | b & c": or(and(a, b), and(b, c)),
		"a & !(b | c)": and(a, not(or(b, c))), "a | !(b & c)": or(a, not(and(b, c))), "(a & b & c) & (a | b & (c | 0))": and(and(a, b, c), or(a, and(b, or(c, constant(0))))), "!(!a & (b | !c)) | (0 | 1)": or(not(and(not(a), or(b, not(c)))), or(constant(0), constant(1))),
	} {
		text, e := boolexp.Format(x, abc())
		same(t, "Format", text, s)
		same(t, "error of Format "+s, e, api.OK)
		y, at, e := boolexp.Parse(s, abc())
		sameExpr(t, "Parse "+s, y, e, x, api.OK)
		same(t, "offset of "+s, at, 0)
	}
	_, e := boolexp.Format(variable(0), nil)
	same(t, "error of Format without names", e, api.ErrRange)
	s, e := boolexp.Format(not(constant(1)), nil)
	same(t, "Format without names", s, "!1")
	same(t, "error of Format without names", e, api.OK)
}

func TestLongTexts(t *testing.T) {
	long := []string{strings.Repeat("a", 24), "b"}
	var l []api.Expr
	for range 151 {
		l = append(l, variable(0))
	}
	// 151 names and 150 signs between have 4074 bytes; each further b has 4.
	for range 5 {
		l = append(l, variable(1))
	}
	s, e := boolexp.Format(or(l...), long)
	same(t, "length of Format", len(s), 4094)
	same(t, "error of Format", e, api.OK)
	l[0] = not(not(l[0]))
	s, e = boolexp.Format(or(l...), long)
	same(t, "length of Format", len(s), api.MaxText)
	same(t, "error of Format", e, api.OK)
	x, at, e := boolexp.Parse(s, long)
	sameExpr(t, "Parse of the longest text", x, e, or(l...), api.OK)
	same(t, "offset", at, 0)
	l[0] = not(l[0])
	s, e = boolexp.Format(or(l...), long)
	same(t, "Format of a text that is too long", s, "")
	same(t, "error of Format", e, api.ErrLong)
}

// reading is what Parse returns for a text.
type reading struct {
	text string
	at   int
	e    api.Errno
}

func TestErrorsOfParse(t *testing.T) {
	name := strings.Repeat("z", 24)
	for _, c := range []reading{
		{"a & d", 4, api.ErrNone}, {"a & ", 4, api.ErrSyntax}, {"a b", 2, api.ErrSyntax},
		{"", 0, api.ErrSyntax}, {" ", 1, api.ErrSyntax}, {"   ", 3, api.ErrSyntax}, {"!", 1, api.ErrSyntax}, {"! ! ", 4, api.ErrSyntax}, {"(", 1, api.ErrSyntax}, {"()", 1, api.ErrSyntax}, {"( )", 2, api.ErrSyntax}, {")", 0, api.ErrSyntax}, {"(a", 2, api.ErrSyntax}, {"(a  ", 4, api.ErrSyntax}, {"((a)", 4, api.ErrSyntax}, {"a)", 1, api.ErrSyntax}, {"(a))", 3, api.ErrSyntax}, {"(a b)", 3, api.ErrSyntax}, {"a (b)", 2, api.ErrSyntax}, {"(a)(b)", 3, api.ErrSyntax}, {"(a)b", 3, api.ErrSyntax}, {"a!b", 1, api.ErrSyntax}, {"a !", 2, api.ErrSyntax}, {"(a & ) & b", 5, api.ErrSyntax},
		{"&", 0, api.ErrSyntax}, {"& a", 0, api.ErrSyntax}, {"a &", 3, api.ErrSyntax}, {"a&&b", 2, api.ErrSyntax}, {"a & & b", 4, api.ErrSyntax}, {"a || b", 3, api.ErrSyntax}, {"a | & b", 4, api.ErrSyntax}, {"a | ", 4, api.ErrSyntax}, {"!& a", 1, api.ErrSyntax}, {"a & !", 5, api.ErrSyntax},
		{"01", 1, api.ErrSyntax}, {"10", 1, api.ErrSyntax}, {"0 1", 2, api.ErrSyntax}, {"1a", 1, api.ErrSyntax}, {"0_", 1, api.ErrSyntax}, {"2", 0, api.ErrSyntax}, {"a & 2", 4, api.ErrSyntax}, {"-1", 0, api.ErrSyntax}, {"_a", 0, api.ErrSyntax}, {"a+b", 1, api.ErrSyntax}, {"a=b", 1, api.ErrSyntax}, {"a'", 1, api.ErrSyntax},
		{"a\t& b", 1, api.ErrSyntax}, {"a &\nb", 3, api.ErrSyntax}, {"a\n", 1, api.ErrSyntax}, {"\ra", 0, api.ErrSyntax}, {"a & \x00", 4, api.ErrSyntax}, {"a & é", 4, api.ErrSyntax}, {"aé", 1, api.ErrSyntax}, {"a\xff", 1, api.ErrSyntax}, {"a\u00a0", 1, api.ErrSyntax}, {"＆", 0, api.ErrSyntax},
		{"d", 0, api.ErrNone}, {"  d", 2, api.ErrNone}, {"!d", 1, api.ErrNone}, {"(d", 1, api.ErrNone}, {"A", 0, api.ErrNone}, {"ab", 0, api.ErrNone}, {"a & ab", 4, api.ErrNone}, {"a & a_", 4, api.ErrNone}, {"a & a0 & ?", 4, api.ErrNone}, {"d e", 0, api.ErrNone}, {"d ? 2", 0, api.ErrNone}, {"(a | !dd) & e", 6, api.ErrNone}, {"a & " + name, 4, api.ErrNone}, {strings.Repeat("a", 4096), 0, api.ErrNone}, {"d" + strings.Repeat("!", 4095), 0, api.ErrNone},
		{"? d", 0, api.ErrSyntax}, {"a & ) d", 4, api.ErrSyntax}, {"a b d", 2, api.ErrSyntax},
		// No word is expected there, whether it is a name or not.
		{"a d", 2, api.ErrSyntax}, {"1d", 1, api.ErrSyntax}, {"(a d)", 3, api.ErrSyntax},
		{strings.Repeat(" ", 4097), 0, api.ErrLong}, {strings.Repeat("a", 4097), 0, api.ErrLong}, {"a" + strings.Repeat(" ", 4096), 0, api.ErrLong}, {strings.Repeat("?", 1<<20), 0, api.ErrLong}, {strings.Repeat("(", 4096), 4096, api.ErrSyntax}, {strings.Repeat("!", 4096), 4096, api.ErrSyntax}, {strings.Repeat(" ", 4096), 4096, api.ErrSyntax},
		{strings.Repeat("!", 16) + "a", 0, api.ErrMany}, {strings.Repeat("!", 4095) + "a", 0, api.ErrMany}, {strings.Repeat("!", 4094) + "d", 4094, api.ErrNone}, {strings.Repeat("!", 4000) + "a b", 4002, api.ErrSyntax}, {strings.Repeat("!(", 16) + "a" + strings.Repeat(")", 16), 0, api.ErrMany}, {strings.Repeat("!(", 16) + "a" + strings.Repeat(")", 15), 48, api.ErrSyntax}, {strings.Repeat("(a & ", 16) + "b" + strings.Repeat(")", 16), 0, api.ErrMany},
		{strings.Repeat("a&", 255) + "a", 0, api.ErrMany}, {strings.Repeat("a & ", 1000) + "a", 0, api.ErrMany}, {strings.Repeat("a & ", 1000) + "d", 4000, api.ErrNone}, {strings.Repeat("a|", 2047) + "!", 4095, api.ErrSyntax}, {strings.Repeat("a|", 255) + "a b", 512, api.ErrSyntax}, {strings.Repeat("a&b|", 127) + "!c", 0, api.ErrMany},
	} {
		x, at, e := boolexp.Parse(c.text, abc())
		what := "Parse " + strconv.Quote(c.text[:min(len(c.text), 40)])
		sameExpr(t, what, x, e, none, c.e)
		same(t, "offset of "+what, at, c.at)
	}
}

func TestParse(t *testing.T) {
	a, b, c := variable(0), variable(1), variable(2)
	for s, x := range map[string]api.Expr{
		" a": a, "a ": a, "  a  ": a, "(a)": a, "( a )": a, "((a))": a, strings.Repeat("(", 2047) + "a" + strings.Repeat(")", 2047): a, "a" + strings.Repeat(" ", 4095): a, "! a": not(a), "!!a": not(not(a)), "! ! a": not(not(a)), "!(a)": not(a), "(!a)": not(a), "!(!(a))": not(not(a)),
		"a&b": and(a, b), "a  &b": and(a, b), "a&(b)": and(a, b), "(a)&b": and(a, b), "(a&b)": and(a, b), "a&b&c": and(a, b, c), "a&(b&c)": and(a, and(b, c)), "((a&b))&c": and(and(a, b), c), "a|b|c": or(a, b, c), "(a|b)|c": or(or(a, b), c), "a|(b|(c))": or(a, or(b, c)),
		"a|b&c": or(a, and(b, c)), "a&b|c": or(and(a, b), c), "a&b|b&c|c&a": or(and(a, b), and(b, c), and(c, a)), "a|b&c|a": or(a, and(b, c), a), "a|(b&c)": or(a, and(b, c)), "(a|b)&c": and(or(a, b), c), "!a&b": and(not(a), b), "a&!b": and(a, not(b)), "!a|!b": or(not(a), not(b)), "!(a|b)&c": and(not(or(a, b)), c), "!!a&b": and(not(not(a)), b), "!a&b|c": or(and(not(a), b), c),
		"0": constant(0), "1": constant(1), "!0&1": and(not(constant(0)), constant(1)), "0|1|a": or(constant(0), constant(1), a), "1 & 0": and(constant(1), constant(0)), "(0)": constant(0),
		strings.Repeat("!", 15) + "a": repeated(15, a), strings.Repeat("a&", 254) + "a": wide(255), strings.Repeat("a & ", 254) + "a": wide(255), strings.Repeat("!(", 15) + "a" + strings.Repeat(")", 15): repeated(15, a),
	} {
		y, at, e := boolexp.Parse(s, abc())
		sameExpr(t, "Parse "+s[:min(len(s), 40)], y, e, x, api.OK)
		same(t, "offset of "+s[:min(len(s), 40)], at, 0)
	}
	x, at, e := boolexp.Parse("a1 & a | a1b & A1", []string{"a", "a1", "a1b", "A1"})
	sameExpr(t, "Parse", x, e, or(and(variable(1), variable(0)), and(variable(2), variable(3))), api.OK)
	same(t, "offset", at, 0)
	x, at, e = boolexp.Parse("0 | !1", nil)
	sameExpr(t, "Parse without names", x, e, or(constant(0), not(constant(1))), api.OK)
	same(t, "offset", at, 0)
	x, at, e = boolexp.Parse("0 | a", nil)
	sameExpr(t, "Parse without names", x, e, none, api.ErrNone)
	same(t, "offset", at, 4)
}

// read tells where a text is wrong by what may stand at each place: an operand, or what follows one.
func read(text string, names []string) (int, api.Errno) {
	behind, open := false, 0
	for at := 0; at < len(text); at++ {
		c := text[at]
		letter := 'a' <= c && c <= 'z'
		switch {
		case c == ' ', !behind && c == '!':
		case !behind && c == '(':
			open++
		case behind && c == ')' && open > 0:
			open--
		case behind && (c == '&' || c == '|'):
			behind = false
		case !behind && (c == '0' || c == '1'):
			behind = true
		case !behind && letter:
			end := at
			for end < len(text) && ('a' <= text[end] && text[end] <= 'z' || '0' <= text[end] && text[end] <= '9') {
				end++
			}
			if !slices.Contains(names, text[at:end]) {
				return at, api.ErrNone
			}
			at, behind = end-1, true
		default:
			return at, api.ErrSyntax
		}
	}
	if !behind || open > 0 {
		return len(text), api.ErrSyntax
	}
	return 0, api.OK
}

// computed finds the value of a right text by two stacks, for the values of the variables a and b.
func computed(text string, a, b bool) bool {
	var values []bool
	var signs []byte
	apply := func() {
		sign, last := signs[len(signs)-1], len(values)-1
		signs = signs[:len(signs)-1]
		switch sign {
		case '!':
			values[last] = !values[last]
		case '&':
			values = append(values[:last-1], values[last-1] && values[last])
		case '|':
			values = append(values[:last-1], values[last-1] || values[last])
		}
	}
	for i := range len(text) {
		switch c := text[i]; c {
		case 'a', 'b', '0', '1':
			values = append(values, map[byte]bool{'a': a, 'b': b, '0': false, '1': true}[c])
		case '!', '(':
			signs = append(signs, c)
		case '&', '|':
			for len(signs) > 0 && strings.IndexByte("(|&!", signs[len(signs)-1]) >= strings.IndexByte("(|&!", c) {
				apply()
			}
			signs = append(signs, c)
		case ')':
			for signs[len(signs)-1] != '(' {
				apply()
			}
			signs = signs[:len(signs)-1]
		}
	}
	for len(signs) > 0 {
		apply()
	}
	return values[0]
}

func TestAllShortTexts(t *testing.T) {
	names := []string{"a", "b"}
	const letters = "ab01!&|() "
	texts := []string{""}
	for from := 0; len(texts[from]) < 5; from++ {
		for _, c := range letters {
			texts = append(texts, texts[from]+string(c))
		}
	}
	r := rand.New(rand.NewSource(60))
	for range 40000 {
		s := ""
		for range 6 + r.Intn(8) {
			s += letters[r.Intn(len(letters)):][:1]
		}
		texts = append(texts, s)
	}
	right := 0
	for _, s := range texts {
		expected, f := read(s, names)
		x, at, e := boolexp.Parse(s, names)
		if at != expected || e != f {
			t.Errorf("Parse %q: %d, %d instead of %d, %d", s, at, e, expected, f)
		}
		if e != api.OK {
			same(t, "Parse "+s, show(x), show(none))
			continue
		}
		right++
		for point := range 4 {
			v, e := boolexp.Eval(x, points(point, 2))
			same(t, "value of "+s, v, computed(s, point&1 == 1, point&2 == 2))
			same(t, "error of Eval "+s, e, api.OK)
		}
	}
	if right < 1000 {
		t.Errorf("only %d texts are right", right)
	}
}

func TestExamplesOfTheDocument(t *testing.T) {
	x, at, e := boolexp.Parse("a & !(b | c)", abc())
	sameExpr(t, "Parse", x, e, and(variable(0), not(or(variable(1), variable(2)))), api.OK)
	same(t, "offset", at, 0)
	nodes, depth, e := boolexp.Size(x)
	same(t, "nodes", nodes, 6)
	same(t, "depth", depth, 4)
	same(t, "error of Size", e, api.OK)
	s, e := boolexp.Format(x, abc())
	same(t, "Format", s, "a & !(b | c)")
	same(t, "error of Format", e, api.OK)
	table, e := boolexp.Table(x, 3)
	same(t, "Table", table, api.Table{N: 3, Bits: 1 << 1})
	same(t, "error of Table", e, api.OK)
	for from, to := range map[string]api.Expr{"a & (b & 1) & a": and(variable(0), variable(1)), "a | !a": constant(1)} {
		x, _, _ := boolexp.Parse(from, abc())
		y, e := boolexp.Simplify(x, 3)
		sameExpr(t, "Simplify "+from, y, e, to, api.OK)
	}
	for _, c := range []reading{{"a & d", 4, api.ErrNone}, {"a & ", 4, api.ErrSyntax}, {"a b", 2, api.ErrSyntax}} {
		x, at, e := boolexp.Parse(c.text, abc())
		sameExpr(t, "Parse "+c.text, x, e, none, c.e)
		same(t, "offset of "+c.text, at, c.at)
	}
}
