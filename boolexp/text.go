package boolexp

import (
	"slices"
	"strings"

	"pneumatic/api"
)

// written is the text of an expression, with the operation on its outside.
type written struct {
	op   int
	text string
}

// Format returns the text of an expression, with the names of the variables.
func Format(x api.Expr, names []string) (string, api.Errno) {
	if e := checkNames(names); e != api.OK {
		return "", e
	}
	if e := Check(x, len(names)); e != api.OK {
		return "", e
	}
	text := fold(x, texts(names)).text
	if len(text) > api.MaxText {
		return "", api.ErrLong
	}
	return text, api.OK
}

// texts writes an expression with names for its variables.
func texts(names []string) meaning[written] {
	return meaning[written]{
		api.OpConst: {leaf: func(index int) written { return written{api.OpConst, "01"[index : index+1]} }},
		api.OpVar:   {leaf: func(index int) written { return written{api.OpVar, names[index]} }},
		api.OpNot: {join: func(args []written) written {
			return written{api.OpNot, "!" + args[0].within(api.OpAnd, api.OpOr)}
		}},
		api.OpAnd: {join: func(args []written) written {
			return written{api.OpAnd, joined(args, " & ", api.OpAnd, api.OpOr)}
		}},
		api.OpOr: {join: func(args []written) written {
			return written{api.OpOr, joined(args, " | ", api.OpOr)}
		}},
	}
}

// within returns the text of an argument, in brackets if it has one of some operations.
func (w written) within(bracketed ...int) string {
	if slices.Contains(bracketed, w.op) {
		return "(" + w.text + ")"
	}
	return w.text
}

// joined returns the texts of arguments with a sign between; those with some operations are in brackets.
func joined(args []written, sign string, bracketed ...int) string {
	var l []string
	for _, a := range args {
		l = append(l, a.within(bracketed...))
	}
	return strings.Join(l, sign)
}

// checkNames returns OK for names of variables.
func checkNames(names []string) api.Errno {
	if len(names) > api.MaxNodes {
		return api.ErrMany
	}
	for i, name := range names {
		if name == "" || word(name) != name {
			return api.ErrForm
		}
		if len(name) > api.MaxName {
			return api.ErrLong
		}
		if slices.Contains(names[:i], name) {
			return api.ErrTwice
		}
	}
	return api.OK
}

// word returns the word with which a text begins, of any length, or nothing.
func word(text string) string {
	n := 0
	for n < len(text) && (isLetter(text[n]) || n > 0 && isInner(text[n])) {
		n++
	}
	return text[:n]
}

// isLetter reports whether a word may begin with a byte.
func isLetter(b byte) bool {
	return 'A' <= b && b <= 'Z' || 'a' <= b && b <= 'z'
}

// isInner reports whether a byte that is no letter may stand inside a word.
func isInner(b byte) bool {
	return '0' <= b && b <= '9' || b == '_'
}
