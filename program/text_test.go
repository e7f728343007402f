package program_test

import (
	"fmt"
	"math/rand"
	"slices"
	"strconv"
	"strings"
	"testing"

	"pneumatic/api"
	"pneumatic/lexer"
	"pneumatic/program"
)

// P15.1: Format and Parse

// textOf follows the definition.
func textOf(n api.Node) string {
	var l []string
	for _, x := range n.Nodes {
		l = append(l, textOf(x))
	}
	switch n.Kind {
	case api.NodeList:
		return "{ " + strings.Join(l, "; ") + " }"
	case api.NodeRepeat:
		return fmt.Sprintf("repeat %d %s", n.Count, l[0])
	case api.NodeChoose:
		return fmt.Sprintf("if %s %s else %s", n.Name, l[0], l[1])
	}
	for _, s := range n.Step.Strokes {
		l = append(l, "ABCDEF"[s.Actuator:s.Actuator+1]+map[bool]string{true: "+", false: "-"}[s.Out])
	}
	if n.Step.Wait > 0 {
		l = append(l, strconv.Itoa(n.Step.Wait))
	}
	return strings.Join(l, " ")
}

func TestFormat(t *testing.T) {
	a, b := one("A+"), one("B- C+ 70")
	for _, x := range []struct {
		n    api.Node
		text string
	}{
		{a, "A+"}, {b, "B- C+ 70"}, {list(a), "{ A+ }"}, {list(a, b, a), "{ A+; B- C+ 70; A+ }"}, {list(list(a), list(list(b))), "{ { A+ }; { { B- C+ 70 } } }"}, {repeat(1, a), "repeat 1 A+"}, {repeat(64, list(a, b)), "repeat 64 { A+; B- C+ 70 }"}, {repeat(2, repeat(3, a)), "repeat 2 repeat 3 A+"}, {choice("x", a, b), "if x A+ else B- C+ 70"}, {choice("if", list(a), choice("else", b, a)), "if if { A+ } else if else B- C+ 70 else A+"}, {choice("A", choice("B", a, b), repeat(2, a)), "if A if B A+ else B- C+ 70 else repeat 2 A+"},
	} {
		text, e := program.Format(x.n)
		expect(t, "Format", text, e, x.text, api.OK)
	}
	for _, n := range programs() {
		expected, f := textOf(n), api.OK
		if len(expected) > 4096 {
			expected, f = "", api.ErrLong
		}
		text, e := program.Format(n)
		expect(t, "Format", text, e, expected, f)
	}
}

func TestLimitOfFormat(t *testing.T) {
	long := slices.Repeat(steps("A+ B+ C+ D+ E+ F+ 1000000"), 151)
	for _, x := range []struct {
		last string
		n    int
		e    api.Errno
	}{{"A+ B+ C+ D+ 10", 4095, api.OK}, {"A+ B+ C+ D+ 100", 4096, api.OK}, {"A+ B+ C+ D+ 1000", 0, api.ErrLong}, {"A+ B+ C+ D+ E+ F+ 1000000", 0, api.ErrLong}} {
		text, e := program.Format(list(append(slices.Clone(long), one(x.last))...))
		same(t, "length of Format", len(text), x.n)
		same(t, "error of Format", e, x.e)
	}
	_, e := program.Format(list(slices.Repeat(long[:1], 255)...))
	same(t, "error of Format", e, api.ErrLong)
}

// tokensThatStand returns how many tokens can stand where they are, by what is expected from one token to the next one: the last element of a list is expected first.
func tokensThatStand(l []api.Token) int {
	expected := []string{"end", "node"}
	for i := 0; i < len(l); {
		last := len(expected) - 1
		what := expected[last]
		expected = expected[:last]
		if what == "rest of a step" && l[i].Kind != api.TokenNumber && !isLetter(l[i]) {
			continue
		}
		more, ok := behind(what, l[i])
		if !ok {
			return i
		}
		slices.Reverse(more)
		expected = append(expected, more...)
		i++
	}
	return len(l)
}

func isLetter(t api.Token) bool { return len(t.Text) == 1 && strings.Contains("ABCDEF", t.Text) }

// behind returns what is expected behind a token where something is expected, and whether the token can stand there.
func behind(what string, t api.Token) ([]string, bool) {
	switch what {
	case "node":
		switch t.Text {
		case "{":
			return []string{"node", "rest of a list"}, true
		case "repeat":
			return []string{"number", "node"}, true
		case "if":
			return []string{"word", "node", "else", "node"}, true
		}
		return []string{"sense", "rest of a step"}, isLetter(t)
	case "rest of a list":
		if t.Text == ";" {
			return []string{"node", "rest of a list"}, true
		}
		return nil, t.Text == "}"
	case "rest of a step":
		if isLetter(t) {
			return []string{"sense", "rest of a step"}, true
		}
		return nil, t.Kind == api.TokenNumber
	case "sense":
		return nil, t.Text == "+" || t.Text == "-"
	case "number":
		return nil, t.Kind == api.TokenNumber
	case "word":
		return nil, t.Kind == api.TokenWord
	case "else":
		return nil, t.Text == "else"
	default:
		return nil, t.Kind == api.TokenEnd
	}
}

// checkParse compares with the definition, and returns the error that is expected: ErrSyntax, that of Scan, or that of Check, for which OK is returned.
func checkParse(t *testing.T, text string) api.Errno {
	t.Helper()
	what := "Parse " + strconv.Quote(text[:min(100, len(text))])
	n, at, e := program.Parse(text)
	l, place, f := lexer.Scan(text)
	if f == api.OK {
		if k := tokensThatStand(l); k < len(l) {
			place, f = l[k].At, api.ErrSyntax
		}
	}
	if f != api.OK {
		expect(t, what, n, e, api.Node{}, f)
		same(t, "offset of "+what, at, place)
		return f
	}
	same(t, "offset of "+what, at, 0)
	if e != api.OK {
		expect(t, what, n, e, api.Node{}, e)
		return e
	}
	// A program that is right has the tokens of the text, without numbers that are 0.
	same(t, "error of "+what, nodeError(n), api.OK)
	again, _, _ := lexer.Scan(textOf(n))
	isZero := func(t api.Token) bool { return t.Text == "0" }
	if !slices.EqualFunc(again, slices.DeleteFunc(l, isZero), func(a, b api.Token) bool { return a.Kind == b.Kind && a.Text == b.Text }) {
		t.Errorf("%s: %s", what, textOf(n))
	}
	return api.OK
}

func TestParseOfShortTexts(t *testing.T) {
	// All texts of up to 6 of these parts, but nothing is put behind what is wrong already.
	parts := []string{"A", "B", "+", "-", "5", "0", "{", "}", ";", "if", "else", "repeat", "x", "("}
	viable := []string{""}
	seen := map[api.Errno]int{}
	for range 6 {
		var longer []string
		for _, s := range viable {
			for _, part := range parts {
				text := strings.TrimPrefix(s+" "+part, " ")
				seen[checkParse(t, text)]++
				l, _, _ := lexer.Scan(text)
				if tokensThatStand(l) >= len(l)-1 {
					longer = append(longer, text)
				}
			}
		}
		viable = longer
	}
	for _, e := range []api.Errno{api.OK, api.ErrSyntax, api.ErrRange, api.ErrTwice, api.ErrOrder} {
		if seen[e] < 10 {
			t.Errorf("only %d texts with the error %d", seen[e], e)
		}
	}
}

func TestParseOfChangedTexts(t *testing.T) {
	r := rand.New(rand.NewSource(153))
	odd := []string{"G+", "a+", "A", "+", "", "007", "12345678", "1000001", "65", "0", ";", "}", "{", "else", "if", "repeat", "x", "é", "_", "abcdefghijklmnopqrstuvwxy", "A+", "if x", "\n", "\t"}
	seen := map[api.Errno]int{}
	for _, n := range programs() {
		l, _, e := lexer.Scan(textOf(n))
		if e != api.OK {
			continue
		}
		for range 3 {
			var parts []string
			for _, x := range l {
				parts = append(parts, x.Text)
			}
			k := r.Intn(len(parts))
			parts[k] = odd[r.Intn(len(odd))]
			if r.Intn(3) == 0 {
				parts = slices.Delete(parts, k, k+1)
			}
			seen[checkParse(t, strings.Join(parts, []string{" ", " ", "\n", "  "}[r.Intn(4)]))]++
		}
	}
	for _, e := range []api.Errno{api.OK, api.ErrSyntax, api.ErrForm, api.ErrLong, api.ErrRange, api.ErrOrder, api.ErrTwice} {
		if seen[e] < 10 {
			t.Errorf("only %d texts with the error %d", seen[e], e)
		}
	}
}

func TestErrorsOfParse(t *testing.T) {
	again := strings.Repeat
	for _, x := range []struct {
		text string
		at   int
		e    api.Errno
	}{
		{"{ A+; if long repeat 2 { B+; B- } else B+ B- 50; A- }", 0, api.ErrTwice}, {"{ A+ ; }", 7, api.ErrSyntax},
		{"", 0, api.ErrSyntax}, {"  ", 2, api.ErrSyntax}, {"x", 0, api.ErrSyntax}, {"G+", 0, api.ErrSyntax}, {"a+", 0, api.ErrSyntax}, {"A", 1, api.ErrSyntax}, {"A  ", 3, api.ErrSyntax}, {"A*", 1, api.ErrSyntax}, {"+", 0, api.ErrSyntax}, {"A++", 2, api.ErrSyntax}, {"A+ B", 4, api.ErrSyntax}, {"A+ B 5", 5, api.ErrSyntax}, {"A+ 5 B+", 5, api.ErrSyntax}, {"A+ 5 5", 5, api.ErrSyntax}, {"A+ -5", 3, api.ErrSyntax}, {"5", 0, api.ErrSyntax}, {"A+;", 2, api.ErrSyntax}, {"A+; B+", 2, api.ErrSyntax}, {"A+ x", 3, api.ErrSyntax}, {"AB+", 0, api.ErrSyntax}, {"A1+", 0, api.ErrSyntax}, {"A+ else", 3, api.ErrSyntax}, {"else", 0, api.ErrSyntax},
		{"{", 1, api.ErrSyntax}, {"{}", 1, api.ErrSyntax}, {"{ A+", 4, api.ErrSyntax}, {"{ A+;", 5, api.ErrSyntax}, {"{; A+ }", 1, api.ErrSyntax}, {"{ A+ } }", 7, api.ErrSyntax}, {"{ A+ } ;", 7, api.ErrSyntax}, {"{ A+ } A+", 7, api.ErrSyntax}, {"{ A+; ; A- }", 6, api.ErrSyntax}, {"{ { A+ } { A- } }", 9, api.ErrSyntax}, {"( A+ )", 0, api.ErrSyntax}, {"{ A+ )", 5, api.ErrSyntax}, {"}", 0, api.ErrSyntax},
		{"repeat", 6, api.ErrSyntax}, {"repeat A+", 7, api.ErrSyntax}, {"repeat 2", 8, api.ErrSyntax}, {"repeat x A+", 7, api.ErrSyntax}, {"repeat 2 3 A+", 9, api.ErrSyntax}, {"repeat 2 A+ A", 13, api.ErrSyntax}, {"repeat 2 }", 9, api.ErrSyntax}, {"repeat2 A+", 0, api.ErrSyntax}, {"Repeat 2 A+", 0, api.ErrSyntax},
		{"if", 2, api.ErrSyntax}, {"if x", 4, api.ErrSyntax}, {"if 5 A+ else A-", 3, api.ErrSyntax}, {"if { A+ } else A-", 3, api.ErrSyntax}, {"if x A+", 7, api.ErrSyntax}, {"if x A+ else", 12, api.ErrSyntax}, {"if x else A+", 5, api.ErrSyntax}, {"if x A+; else A-", 7, api.ErrSyntax}, {"if x if y A+ else A-", 20, api.ErrSyntax}, {"if x y A+ else A-", 5, api.ErrSyntax}, {"if A+ else A-", 4, api.ErrSyntax}, {"if x A+ else A- else A+", 16, api.ErrSyntax}, {"if x { A+ else A- }", 10, api.ErrSyntax},
		// Those of lexer.Scan, wherever they are.
		{"} $", 2, api.ErrSyntax}, {"A+ 05", 3, api.ErrForm}, {"} 12345678", 2, api.ErrLong}, {"if abcdefghijklmnopqrstuvwxy A+ else A-", 3, api.ErrLong}, {"A+ _x", 3, api.ErrSyntax}, {"A+\t", 2, api.ErrSyntax}, {"A\u2212", 1, api.ErrSyntax}, {again(" ", 4096), 4096, api.ErrSyntax}, {again(" ", 4097), 0, api.ErrLong}, {again("$", 4097), 0, api.ErrLong}, {again("x", 4096), 0, api.ErrLong},
		// Those of Check.
		{"A+ 1000001", 0, api.ErrRange}, {"A+ 9999999", 0, api.ErrRange}, {"B+ A+", 0, api.ErrOrder}, {"A+ A-", 0, api.ErrTwice}, {"A+ B+ C+ D+ E+ F+ A+", 0, api.ErrMany}, {"repeat 0 A+", 0, api.ErrRange}, {"repeat 65 A+", 0, api.ErrRange}, {"{ B+ A+; A+ A+ }", 0, api.ErrOrder}, {"{ repeat 65 A+; A+ A+ }", 0, api.ErrRange}, {"{ B+ A+; A+ A+ ) }", 15, api.ErrSyntax},
		{again("{", 16) + "A+" + again("}", 16), 0, api.ErrMany}, {again("{", 2047) + "A+" + again("}", 2047), 0, api.ErrMany}, {again("{", 4096), 4096, api.ErrSyntax}, {again("{", 2040) + "A+" + again("}", 2041), 2040 + 2 + 2040, api.ErrSyntax}, {"{" + again("A+;", 255) + "A+}", 0, api.ErrMany}, {"{" + again("A+;", 1300) + "A A}", 3903, api.ErrSyntax}, {again("repeat 2 ", 400) + "A+", 0, api.ErrMany}, {again("if x ", 800) + "A+", 4002, api.ErrSyntax},
	} {
		n, at, e := program.Parse(x.text)
		what := "Parse " + strconv.Quote(x.text[:min(100, len(x.text))])
		expect(t, what, n, e, api.Node{}, x.e)
		same(t, "offset of "+what, at, x.at)
		checkParse(t, x.text)
	}
}

func TestParse(t *testing.T) {
	a, b := one("A+"), one("B- C+ 70")
	for _, x := range []struct {
		text string
		n    api.Node
	}{
		{"A+", a}, {" A\n+ ", a}, {"A+ 0", a}, {"A+0", a}, {"B-C+70", b}, {"B - C + 70", b}, {"{A+;B-C+ 70;A+0}", list(a, b, a)}, {"{{{A+}}}", deep(4)}, {"repeat 2A+", repeat(2, a)}, {"repeat 64 repeat 1 { A+ }", repeat(64, repeat(1, list(a)))}, {"if x A+ else B- C+ 70", choice("x", a, b)}, {"if A A+ else A-", choice("A", a, one("A-"))}, {"if if A+ else if else A- else A+", choice("if", a, choice("else", one("A-"), a))}, {"if repeat repeat 2 A+ else A-", choice("repeat", repeat(2, a), one("A-"))}, {"if x if y A+ else A- else B+", choice("x", choice("y", a, one("A-")), one("B+"))},
		{"{ A+; if long repeat 2 { B+; B- } else { B+; B- }; A- }", list(a, choice("long", repeat(2, list(steps("B+; B-")...)), list(steps("B+; B-")...)), one("A-"))},
		{"A+ B- C+ D- E+ F- 1000000", one("A+ B- C+ D- E+ F- 1000000")}, {strings.Repeat("{", 15) + "A+" + strings.Repeat("}", 15), deep(16)}, {"{" + strings.Repeat("A+;", 254) + "A+}", list(slices.Repeat([]api.Node{a}, 255)...)},
	} {
		n, at, e := program.Parse(x.text)
		expect(t, "Parse "+x.text, n, e, x.n, api.OK)
		same(t, "offset of Parse", at, 0)
		checkParse(t, x.text)
	}
	n, _, _ := program.Parse("{ A+; if long repeat 2 { B+; B- } else { B+; B- }; A- }")
	nodes, _ := sizeOf(n, 1)
	same(t, "nodes", nodes, 11)
}
