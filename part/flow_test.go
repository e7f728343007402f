package part_test

import (
	"fmt"
	"slices"
	"testing"

	"pneumatic/api"
	"pneumatic/lexer"
	"pneumatic/part"
)

// flow is what is passed, and vented, in a position.
type flow struct {
	passes []part.Pass
	vents  []string
}

// flows has the table of the document: what the kind with a word does in its positions.
func flows() map[string][]flow {
	to := func(port string, from ...string) flow {
		return flow{passes: []part.Pass{{To: port, From: from}}}
	}
	vented := func(x flow, ports ...string) flow {
		x.vents = ports
		return x
	}
	nothing, through, off := flow{}, to("2", "1"), flow{vents: []string{"2"}}
	twoOutputs := []flow{vented(to("2", "1"), "4"), vented(to("4", "1"), "2")}
	shutAtRest, openAtRest := []flow{off, through}, []flow{through, off}
	both := to("2", "1", "11")
	both.passes[0].All = true
	return map[string][]flow{
		"supply": {nothing}, "cylinder": {nothing}, "valve52": twoOutputs, "valve52s": twoOutputs, "valve32": shutAtRest, "valve32o": openAtRest, "limit": shutAtRest, "button": shutAtRest, "shuttle": {to("2", "1", "11")}, "twin": {both}, "quick": {through}, "throttle": {through}, "delay": shutAtRest, "counter": shutAtRest,
	}
}

// pilotsOf has the pilots plus and minus of the kinds with a word that have any.
var pilotsOf = map[string][2]string{"valve52": {"14", "12"}, "valve52s": {"14", ""}, "valve32": {"12", ""}, "valve32o": {"10", ""}, "delay": {"12", ""}, "counter": {"12", ""}}

// P20.2

func TestPassesAndVents(t *testing.T) {
	for kind, x := range entries() {
		l := flows()[x.word]
		same(t, named("Positions", x.word), len(l), x.positions())
		for position, expected := range l {
			passes, e := part.Passes(kind, position)
			expect(t, named("Passes", x.word, position), passes, e, expected.passes, api.OK)
			vents, e := part.Vents(kind, position)
			expect(t, named("Vents", x.word, position), vents, e, expected.vents, api.OK)
		}
		for _, position := range append([]int{len(l), len(l) + 1}, odd...) {
			passes, e := part.Passes(kind, position)
			expect(t, named("Passes", x.word, position), passes, e, []part.Pass{}, api.ErrRange)
			vents, e := part.Vents(kind, position)
			expect(t, named("Vents", x.word, position), vents, e, []string{}, api.ErrRange)
		}
	}
	for kind, expected := range map[int]string{part.Valve52: "[{4 [1] false}] [2]", part.Valve52S: "[{4 [1] false}] [2]", part.Valve32: "[{2 [1] false}] []", part.Valve32O: "[] [2]", part.Limit: "[{2 [1] false}] []", part.Delay: "[{2 [1] false}] []"} {
		passes, _ := part.Passes(kind, 1)
		vents, e := part.Vents(kind, 1)
		expect(t, named("Passes and Vents", kind), fmt.Sprint(passes, vents), e, expected, api.OK)
	}
	for kind, expected := range map[int]string{part.Valve52: "[{2 [1] false}] [4]", part.Valve32O: "[{2 [1] false}] []", part.Shuttle: "[{2 [1 11] false}] []", part.Twin: "[{2 [1 11] true}] []", part.Quick: "[{2 [1] false}] []", part.Supply: "[] []", part.Button: "[] [2]"} {
		passes, _ := part.Passes(kind, 0)
		vents, e := part.Vents(kind, 0)
		expect(t, named("Passes and Vents", kind), fmt.Sprint(passes, vents), e, expected, api.OK)
	}
}

func TestPilots(t *testing.T) {
	for kind, x := range entries() {
		plus, minus, e := part.Pilots(kind)
		expect(t, named("Pilots", x.word), [2]string{plus, minus}, e, pilotsOf[x.word], api.OK)
	}
}

// nextOf follows the definition.
func nextOf(word string, position int, plus, minus bool) (int, bool) {
	switch {
	case word == "valve52" && plus && minus:
		return position, true
	case word == "valve52" && !plus && !minus, pilotsOf[word] == [2]string{}:
		return position, false
	case plus:
		return 1, false
	}
	return 0, false
}

func TestNext(t *testing.T) {
	truths := []bool{false, true}
	for kind, x := range entries() {
		for _, plus := range truths {
			for _, minus := range truths {
				for position := range x.positions() {
					expected, conflict := nextOf(x.word, position, plus, minus)
					got, both, e := part.Next(kind, position, plus, minus)
					expect(t, named("Next", x.word, position, plus, minus), []any{got, both}, e, []any{expected, conflict}, api.OK)
				}
				for _, position := range append([]int{x.positions(), x.positions() + 1}, odd...) {
					got, both, e := part.Next(kind, position, plus, minus)
					expect(t, named("Next", x.word, position, plus, minus), []any{got, both}, e, []any{0, false}, api.ErrRange)
				}
			}
		}
	}
	for _, x := range []struct {
		kind, position int
		plus, minus    bool
		next           int
		both           bool
	}{
		{part.Valve52, 0, true, true, 0, true}, {part.Valve52, 1, true, true, 1, true}, {part.Valve52, 0, false, false, 0, false}, {part.Valve52, 1, false, false, 1, false}, {part.Valve52, 0, true, false, 1, false}, {part.Valve52, 1, false, true, 0, false}, {part.Valve52S, 1, false, false, 0, false}, {part.Valve52S, 1, true, true, 1, false}, {part.Valve52S, 0, false, true, 0, false}, {part.Valve32O, 0, true, false, 1, false}, {part.Delay, 0, true, false, 1, false}, {part.Counter, 1, false, false, 0, false}, {part.Limit, 1, false, false, 1, false}, {part.Limit, 1, false, true, 1, false}, {part.Button, 0, true, false, 0, false}, {part.Button, 1, true, true, 1, false}, {part.Supply, 0, true, true, 0, false}, {part.Twin, 0, true, false, 0, false},
	} {
		next, both, e := part.Next(x.kind, x.position, x.plus, x.minus)
		expect(t, named("Next", x), []any{next, both}, e, []any{x.next, x.both}, api.OK)
	}
}

// P20.3

func TestWordsAreReadBack(t *testing.T) {
	seen := map[string]bool{}
	for kind := range part.Kinds {
		word, _ := part.Word(kind)
		same(t, named("Word", word), lexer.Word(word), api.OK)
		same(t, named("Word", word), seen[word], false)
		seen[word] = true
		again, e := part.Kind(word)
		expect(t, named("Kind", word), again, e, kind, api.OK)
	}
}

// withRole returns the ports of a kind with a role, by its ports and their roles.
func withRole(kind, role int) []string {
	ports, _ := part.Ports(kind)
	return slices.DeleteFunc(ports, func(port string) bool {
		its, e := part.Role(kind, port)
		return e != api.OK || its != role
	})
}

func TestPressureGoesFromInputsToOutputs(t *testing.T) {
	for kind := range part.Kinds {
		ports, _ := part.Ports(kind)
		same(t, named("Ports", kind), slices.IsSorted(ports) && len(slices.Compact(slices.Clone(ports))) == len(ports), true)
		inputs, outputs := withRole(kind, part.RoleIn), withRole(kind, part.RoleOut)
		positions, _ := part.Positions(kind)
		for position := range positions {
			passes, _ := part.Passes(kind, position)
			vents, _ := part.Vents(kind, position)
			same(t, named("Passes", kind, position), len(passes) <= 1, true)
			same(t, named("Vents", kind, position), slices.IsSorted(vents), true)
			for _, x := range passes {
				same(t, named("Passes", kind, position), slices.Contains(outputs, x.To), true)
				same(t, named("Passes", kind, position), slices.Contains(vents, x.To), false)
				same(t, named("Passes", kind, position), len(x.From) > 0 && slices.IsSorted(x.From), true)
				same(t, named("Passes", kind, position), x.All, kind == part.Twin)
				for _, port := range x.From {
					same(t, named("Passes", kind, position), slices.Contains(inputs, port), true)
				}
			}
			for _, port := range vents {
				same(t, named("Vents", kind, position), slices.Contains(outputs, port), true)
			}
			if len(withRole(kind, part.RoleExhaust)) > 0 {
				same(t, named("Vents", kind, position), len(vents) >= len(outputs)-1, true)
			}
		}
	}
}

func TestPilotsThatAreAloneLeadToTheirPosition(t *testing.T) {
	for kind := range part.Kinds {
		plus, minus, _ := part.Pilots(kind)
		var l []string
		for _, port := range []string{minus, plus} {
			if port != "" {
				l = append(l, port)
			}
		}
		expect(t, named("Pilots", kind), l, api.OK, withRole(kind, part.RolePilot), api.OK)
		positions, _ := part.Positions(kind)
		for position := range positions {
			if plus != "" {
				next, both, e := part.Next(kind, position, true, false)
				expect(t, named("Next", kind, position), []any{next, both}, e, []any{1, false}, api.OK)
			}
			if minus != "" {
				next, both, e := part.Next(kind, position, false, true)
				expect(t, named("Next", kind, position), []any{next, both}, e, []any{0, false}, api.OK)
			}
		}
	}
}

// The rules of all layers about memory

func TestResultsAreNotShared(t *testing.T) {
	overwrite := func(l []string) {
		for i := range l[:cap(l)] {
			l[:cap(l)][i] = "x"
		}
	}
	for range 2 {
		for kind, x := range entries() {
			for position, expected := range flows()[x.word] {
				passes, e := part.Passes(kind, position)
				expect(t, named("Passes", x.word, position), passes, e, expected.passes, api.OK)
				for _, y := range passes {
					overwrite(y.From)
				}
				clear(passes[:cap(passes)])
				vents, e := part.Vents(kind, position)
				expect(t, named("Vents", x.word, position), vents, e, expected.vents, api.OK)
				overwrite(vents)
			}
			all := slices.Concat(x.ports[:]...)
			slices.Sort(all)
			ports, e := part.Ports(kind)
			expect(t, named("Ports", x.word), ports, e, all, api.OK)
			overwrite(ports)
		}
	}
}
