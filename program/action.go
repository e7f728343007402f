package program

import (
	"iter"
	"strconv"
	"strings"

	"pneumatic/api"
	"pneumatic/stroke"
)

// action is what a program does, by the kind of its node: a single step, a list, a repeat or a choice.
type action interface {
	// text returns the text.
	text() string
	// length returns how many steps are done when some inputs are true. For more than MaxCount it is any number above.
	length(on inputs) int
	// steps yields the steps that are done when some inputs are true.
	steps(on inputs) iter.Seq[api.Step]
	// normal returns the normal form.
	normal() action
}

type (
	single struct{ step api.Step }
	list   struct{ actions []action }
	repeat struct {
		count int
		body  action
	}
	choice struct {
		name          string
		first, second action
	}
)

// inputs has the names of the inputs that are true.
type inputs map[string]bool

// setOf returns the inputs with some names.
func setOf(names []string) inputs {
	on := inputs{}
	for _, name := range names {
		on[name] = true
	}
	return on
}

// actionOf returns what a program does that was checked.
func actionOf(n api.Node) action {
	var inner []action
	for _, x := range n.Nodes {
		inner = append(inner, actionOf(x))
	}
	switch n.Kind {
	case api.NodeList:
		return list{inner}
	case api.NodeRepeat:
		return repeat{n.Count, inner[0]}
	case api.NodeChoose:
		return choice{n.Name, inner[0], inner[1]}
	default:
		return single{n.Step}
	}
}

// nodeOf returns the program that does an action, in memory of its own.
func nodeOf(a action) api.Node {
	switch x := a.(type) {
	case list:
		return api.Node{Kind: api.NodeList, Nodes: nodesFor(x.actions...)}
	case repeat:
		return api.Node{Kind: api.NodeRepeat, Count: x.count, Nodes: nodesFor(x.body)}
	case choice:
		return api.Node{Kind: api.NodeChoose, Name: x.name, Nodes: nodesFor(x.first, x.second)}
	case single:
		return api.Node{Kind: api.NodeStep, Step: copyOf(x.step)}
	default:
		return api.Node{}
	}
}

// nodesFor returns the programs that do some actions.
func nodesFor(actions ...action) []api.Node {
	var l []api.Node
	for _, a := range actions {
		l = append(l, nodeOf(a))
	}
	return l
}

func (x single) text() string {
	// The step was checked, and is just one.
	text, _ := stroke.Format([]api.Step{x.step})
	return text
}

func (x list) text() string {
	var texts []string
	for _, a := range x.actions {
		texts = append(texts, a.text())
	}
	return listBegins + " " + strings.Join(texts, listGoesOn+" ") + " " + listEnds
}

func (x repeat) text() string {
	return strings.Join([]string{repeatBegins, strconv.Itoa(x.count), x.body.text()}, " ")
}

func (x choice) text() string {
	return strings.Join([]string{choiceBegins, x.name, x.first.text(), choiceGoesOn, x.second.text()}, " ")
}

func (x single) length(inputs) int { return 1 }

func (x list) length(on inputs) int {
	n := 0
	for _, a := range x.actions {
		n += a.length(on)
	}
	return n
}

func (x repeat) length(on inputs) int {
	// Without a limit, repeats within repeats come to lengths that no int has.
	return min(x.count*x.body.length(on), api.MaxCount+1)
}

func (x choice) length(on inputs) int { return x.chosen(on).length(on) }

// chosen returns the action that is done.
func (x choice) chosen(on inputs) action {
	if on[x.name] {
		return x.first
	}
	return x.second
}

func (x single) steps(inputs) iter.Seq[api.Step] {
	return func(yield func(api.Step) bool) { yield(x.step) }
}

func (x list) steps(on inputs) iter.Seq[api.Step] {
	return func(yield func(api.Step) bool) {
		for _, a := range x.actions {
			for step := range a.steps(on) {
				if !yield(step) {
					return
				}
			}
		}
	}
}

func (x repeat) steps(on inputs) iter.Seq[api.Step] {
	return func(yield func(api.Step) bool) {
		for range x.count {
			for step := range x.body.steps(on) {
				if !yield(step) {
					return
				}
			}
		}
	}
}

func (x choice) steps(on inputs) iter.Seq[api.Step] { return x.chosen(on).steps(on) }

func (x single) normal() action { return x }

func (x list) normal() action {
	var l []action
	for _, a := range x.actions {
		l = append(l, parts(a.normal())...)
	}
	if len(l) == 1 {
		return l[0]
	}
	return list{l}
}

func (x repeat) normal() action {
	if x.count == 1 {
		return x.body.normal()
	}
	return repeat{x.count, x.body.normal()}
}

func (x choice) normal() action {
	return choice{x.name, x.first.normal(), x.second.normal()}
}

// parts returns the actions of a list, or another action alone.
func parts(a action) []action {
	switch x := a.(type) {
	case list:
		return x.actions
	default:
		return []action{a}
	}
}
