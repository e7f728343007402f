package part_test

import (
	"fmt"
	"math"
	"slices"
	"strings"
	"testing"

	"pneumatic/api"
	"pneumatic/lexer"
	"pneumatic/part"
)

func same[T comparable](t *testing.T, what string, got, expected T) {
	t.Helper()
	if got != expected {
		t.Errorf("%s: %v instead of %v", what, got, expected)
	}
}

// expect compares a result and an error with those that are expected. Nil and empty lists are equal.
func expect(t *testing.T, what string, got any, e api.Errno, expected any, f api.Errno) {
	t.Helper()
	same(t, what, fmt.Sprint(got), fmt.Sprint(expected))
	same(t, "error of "+what, e, f)
}

// kinds has the table of the document: the word, the letter, and the ports in, out, exhaust, pilots and chambers of each kind.
const kinds = `supply|Z||1|||
cylinder|A|||||2, 4
valve52|V|1|2, 4|3, 5|12, 14|
valve52s|V|1|2, 4|3, 5|14|
valve32|V|1|2|3|12|
valve32o|V|1|2|3|10|
limit|S|1|2|3||
button|S|1|2|3||
shuttle|V|1, 11|2|||
twin|V|1, 11|2|||
quick|V|1|2|3||
throttle|V|1|2|||
delay|V|1|2|3|12|
counter|V|1|2|3|12|`

// entry is a line of the table.
type entry struct {
	word, letter string
	ports        [5][]string
}

// entries returns the lines of the table.
func entries() []entry {
	var l []entry
	for _, line := range strings.Split(kinds, "\n") {
		columns := strings.Split(line, "|")
		x := entry{word: columns[0], letter: columns[1]}
		for role, names := range columns[2:] {
			if names != "" {
				x.ports[role] = strings.Split(names, ", ")
			}
		}
		l = append(l, x)
	}
	return l
}

// positions returns how many positions a kind has.
func (x entry) positions() int {
	if len(x.ports[2]) > 0 && x.word != "quick" {
		return 2
	}
	return 1
}

// named returns the name of a call.
func named(function string, arguments ...any) string {
	return function + " " + fmt.Sprint(arguments...)
}

// odd are numbers of no kind, and of no position.
var odd = []int{-1, -2, 14, 15, 99, 1 << 40, api.None, math.MinInt, math.MaxInt}

// names are those of all ports, and others.
var names = []string{"1", "2", "3", "4", "5", "10", "11", "12", "14", "", "0", "6", "7", "13", "15", "01", " 1", "1 ", "1 11", "12 14", "2 4", "3 5", "1,", "1, 11", "111", "-1", "１", "P", "A"}

// P20.1

func TestConstants(t *testing.T) {
	expect(t, "kinds", []int{part.Supply, part.Cylinder, part.Valve52, part.Valve52S, part.Valve32, part.Valve32O, part.Limit, part.Button, part.Shuttle, part.Twin, part.Quick, part.Throttle, part.Delay, part.Counter, part.Kinds}, api.OK, []int{0, 1, 2, 3, 4, 5, 6, 7, 8, 9, 10, 11, 12, 13, 14}, api.OK)
	expect(t, "roles", []int{part.RoleIn, part.RoleOut, part.RoleExhaust, part.RolePilot, part.RoleChamber, part.Roles}, api.OK, []int{0, 1, 2, 3, 4, 5}, api.OK)
}

func TestKindsThatDoNotExist(t *testing.T) {
	for _, kind := range odd {
		word, e := part.Word(kind)
		expect(t, named("Word", kind), word, e, "", api.ErrArg)
		letter, e := part.Letter(kind)
		expect(t, named("Letter", kind), letter, e, "", api.ErrArg)
		ports, e := part.Ports(kind)
		expect(t, named("Ports", kind), ports, e, []string{}, api.ErrArg)
		positions, e := part.Positions(kind)
		expect(t, named("Positions", kind), positions, e, 0, api.ErrArg)
		plus, minus, e := part.Pilots(kind)
		expect(t, named("Pilots", kind), plus+minus, e, "", api.ErrArg)
		for _, port := range names {
			role, e := part.Role(kind, port)
			expect(t, named("Role", kind, port), role, e, 0, api.ErrArg)
		}
		for _, position := range append([]int{0, 1}, odd...) {
			passes, e := part.Passes(kind, position)
			expect(t, named("Passes", kind, position), passes, e, []part.Pass{}, api.ErrArg)
			vents, e := part.Vents(kind, position)
			expect(t, named("Vents", kind, position), vents, e, []string{}, api.ErrArg)
			for _, pilots := range [][2]bool{{false, false}, {false, true}, {true, false}, {true, true}} {
				next, conflict, e := part.Next(kind, position, pilots[0], pilots[1])
				expect(t, named("Next", kind, position, pilots), []any{next, conflict}, e, []any{0, false}, api.ErrArg)
			}
		}
		for _, p := range []api.Part{{Kind: kind, Name: "A"}, {Kind: kind}, {Kind: kind, Name: "A", Delay: -1}, {Kind: kind, Name: "A", Delay: 100}} {
			same(t, named("Check", p), part.Check(p), api.ErrArg)
		}
	}
}

func TestTheTable(t *testing.T) {
	same(t, "number of kinds", len(entries()), part.Kinds)
	for kind, x := range entries() {
		word, e := part.Word(kind)
		expect(t, named("Word", kind), word, e, x.word, api.OK)
		again, e := part.Kind(x.word)
		expect(t, named("Kind", x.word), again, e, kind, api.OK)
		letter, e := part.Letter(kind)
		expect(t, named("Letter", x.word), letter, e, x.letter, api.OK)
		positions, e := part.Positions(kind)
		expect(t, named("Positions", x.word), positions, e, x.positions(), api.OK)
		all := slices.Concat(x.ports[:]...)
		slices.Sort(all)
		ports, e := part.Ports(kind)
		expect(t, named("Ports", x.word), ports, e, all, api.OK)
		same(t, named("number of ports", x.word), len(ports), len(all))
		for _, port := range names {
			expected, f := 0, api.ErrNone
			for role, l := range x.ports {
				if slices.Contains(l, port) {
					expected, f = role, api.OK
				}
			}
			role, e := part.Role(kind, port)
			expect(t, named("Role", x.word, port), role, e, expected, f)
		}
	}
	for kind, expected := range map[int][]string{
		part.Supply: {"1"}, part.Cylinder: {"2", "4"}, part.Valve52: {"1", "12", "14", "2", "3", "4", "5"}, part.Valve52S: {"1", "14", "2", "3", "4", "5"}, part.Valve32: {"1", "12", "2", "3"}, part.Valve32O: {"1", "10", "2", "3"}, part.Limit: {"1", "2", "3"}, part.Shuttle: {"1", "11", "2"}, part.Throttle: {"1", "2"}, part.Delay: {"1", "12", "2", "3"},
	} {
		ports, e := part.Ports(kind)
		expect(t, named("Ports", kind), ports, e, expected, api.OK)
	}
}

func TestWordsOfNoKind(t *testing.T) {
	words := []string{"", " ", "part", "valve", "valve5", "valve53", "valve52 ", " valve52", "valve52S", "Valve52", "VALVE52", "valve52ss", "valve32O", "valve320", "supplies", "supp", "cylinder\n", "cylinder|A", "limits", "Delay", "kinds", "0", "1", "Z", "\x00", "dela\u0443", strings.Repeat("supply", 1<<16)}
	for _, x := range entries() {
		words = append(words, x.word[1:], x.word[:len(x.word)-1]+"_", x.word+x.word, strings.ToUpper(x.word), strings.ToUpper(x.word[:1])+x.word[1:])
	}
	for _, word := range words {
		kind, e := part.Kind(word)
		expect(t, "Kind", kind, e, 0, api.ErrNone)
	}
}

// partError follows the definition.
func partError(p api.Part) api.Errno {
	if p.Kind < 0 || p.Kind > 13 {
		return api.ErrArg
	}
	if e := lexer.Word(p.Name); e != api.OK {
		return e
	}
	isDelay := p.Kind == 12
	if isDelay && (p.Delay < 1 || p.Delay > 1000000) || !isDelay && p.Delay != 0 {
		return api.ErrRange
	}
	return api.OK
}

func TestCheck(t *testing.T) {
	seen := map[api.Errno]int{}
	for kind := -2; kind < 17; kind++ {
		for _, name := range []string{"A", "a0", "V_1", "Delay", strings.Repeat("a", 24), "", "_", "0A", "A.2", "A B", "A\n", "é", "\xff", strings.Repeat("a", 25), strings.Repeat("a", 25) + ".", strings.Repeat("1", 25), strings.Repeat("a", 1000)} {
			for _, delay := range []int{0, 1, 2, 250, 999999, 1000000, 1000001, -1, -2, 1 << 40, api.None, math.MinInt, math.MaxInt} {
				p := api.Part{Kind: kind, Name: name, Delay: delay}
				seen[partError(p)]++
				same(t, named("Check", kind, name[:min(30, len(name))], delay), part.Check(p), partError(p))
			}
		}
	}
	for _, e := range []api.Errno{api.OK, api.ErrArg, api.ErrForm, api.ErrLong, api.ErrRange} {
		if seen[e] < 50 {
			t.Errorf("only %d parts with the error %d", seen[e], e)
		}
	}
	for _, x := range []struct {
		p api.Part
		e api.Errno
	}{
		{api.Part{}, api.ErrForm}, {api.Part{Name: "S"}, api.OK}, {api.Part{Kind: part.Delay, Name: "T"}, api.ErrRange}, {api.Part{Kind: part.Delay, Name: "T", Delay: 1}, api.OK}, {api.Part{Kind: part.Delay, Name: "T", Delay: 1000000}, api.OK}, {api.Part{Kind: part.Delay, Name: "T", Delay: 1000001}, api.ErrRange}, {api.Part{Kind: part.Delay, Name: "T", Delay: -5}, api.ErrRange}, {api.Part{Kind: part.Button, Name: "start", Delay: 10}, api.ErrRange}, {api.Part{Kind: part.Counter, Name: "C", Delay: 1}, api.ErrRange},
		{api.Part{Kind: 14, Name: "", Delay: -1}, api.ErrArg}, {api.Part{Kind: part.Delay, Name: "", Delay: 0}, api.ErrForm}, {api.Part{Kind: part.Delay, Name: strings.Repeat("T", 25), Delay: 0}, api.ErrLong}, {api.Part{Kind: part.Limit, Name: "1A", Delay: 7}, api.ErrForm},
	} {
		same(t, named("Check", x.p), part.Check(x.p), x.e)
	}
}
