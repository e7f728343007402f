package program

import (
	"pneumatic/api"
	"pneumatic/lexer"
	"pneumatic/stroke"
)

// The words and signs around the nodes of a program.
const (
	listBegins   = "{"
	listGoesOn   = ";"
	listEnds     = "}"
	repeatBegins = "repeat"
	choiceBegins = "if"
	choiceGoesOn = "else"
)

// reader reads a program from its tokens, from the left to the right. Its methods report whether they could read what they are named after; where they could not, the next token is one that cannot stand where it is.
type reader struct {
	tokens []api.Token
	at     int
}

// whole reads a program up to the end of the text.
func (r *reader) whole() (api.Node, bool) {
	n, ok := r.node()
	return n, ok && r.next().Kind == api.TokenEnd
}

// node reads a node of any kind.
func (r *reader) node() (api.Node, bool) {
	switch {
	case r.take(listBegins):
		return r.list()
	case r.take(repeatBegins):
		return r.repeat()
	case r.take(choiceBegins):
		return r.choice()
	default:
		return r.step()
	}
}

// list reads a list behind its first sign.
func (r *reader) list() (api.Node, bool) {
	n := api.Node{Kind: api.NodeList}
	for {
		if !r.inner(&n) {
			return api.Node{}, false
		}
		if r.take(listEnds) {
			return n, true
		}
		if !r.take(listGoesOn) {
			return api.Node{}, false
		}
	}
}

// repeat reads a repeat behind its first word.
func (r *reader) repeat() (api.Node, bool) {
	count, ok := r.number()
	n := api.Node{Kind: api.NodeRepeat, Count: count}
	if !ok || !r.inner(&n) {
		return api.Node{}, false
	}
	return n, true
}

// choice reads a choice behind its first word.
func (r *reader) choice() (api.Node, bool) {
	name, ok := r.takeKind(api.TokenWord)
	n := api.Node{Kind: api.NodeChoose, Name: name}
	if !ok || !r.inner(&n) || !r.take(choiceGoesOn) || !r.inner(&n) {
		return api.Node{}, false
	}
	return n, true
}

// inner reads a node within another one.
func (r *reader) inner(n *api.Node) bool {
	x, ok := r.node()
	n.Nodes = append(n.Nodes, x)
	return ok
}

// step reads a step: strokes, and perhaps a number.
func (r *reader) step() (api.Node, bool) {
	n := api.Node{Kind: api.NodeStep}
	for more := true; more; more = isLetter(r.next()) {
		x, ok := r.stroke()
		if !ok {
			return api.Node{}, false
		}
		n.Step.Strokes = append(n.Step.Strokes, x)
	}
	n.Step.Wait, _ = r.number()
	return n, true
}

// stroke reads a stroke.
func (r *reader) stroke() (api.Stroke, bool) {
	letter := r.next()
	if !isLetter(letter) {
		return api.Stroke{}, false
	}
	r.at++
	x, ok := strokeOf(letter.Text + r.next().Text)
	if ok {
		r.at++
	}
	return x, ok
}

// number reads a number.
func (r *reader) number() (int, bool) {
	text, ok := r.takeKind(api.TokenNumber)
	if !ok {
		return 0, false
	}
	value, e := lexer.Value(text)
	return value, e == api.OK
}

// next returns the next token. Behind the end, which is never taken, there is none.
func (r *reader) next() api.Token { return r.tokens[r.at] }

// take goes over a word or a sign if it is next, and reports whether it is.
func (r *reader) take(text string) bool {
	if r.next().Text != text {
		return false
	}
	r.at++
	return true
}

// takeKind goes over a token of a kind if it is next, and returns its text.
func (r *reader) takeKind(kind int) (string, bool) {
	t := r.next()
	if t.Kind != kind {
		return "", false
	}
	r.at++
	return t.Text, true
}

// isLetter reports whether a token is the letter of an actuator.
func isLetter(t api.Token) bool {
	_, ok := strokeOf(t.Text + "+")
	return ok
}

// strokeOf returns the stroke with a text, if there is one.
func strokeOf(text string) (api.Stroke, bool) {
	steps, _, e := stroke.Parse(text)
	if e != api.OK || len(steps) == 0 {
		return api.Stroke{}, false
	}
	return steps[0].Strokes[0], true
}
