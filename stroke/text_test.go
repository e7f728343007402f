package stroke_test

import (
	"fmt"
	"math/rand"
	"regexp"
	"strconv"
	"strings"
	"testing"

	"pneumatic/api"
	"pneumatic/stroke"
)

// P13.2: Format and Parse

// textOf follows the definition.
func textOf(l []api.Step) string {
	var steps []string
	for _, x := range l {
		var texts []string
		for _, s := range x.Strokes {
			texts = append(texts, "ABCDEF"[s.Actuator:s.Actuator+1]+map[bool]string{true: "+", false: "-"}[s.Out])
		}
		if x.Wait != 0 {
			texts = append(texts, fmt.Sprint(x.Wait))
		}
		steps = append(steps, strings.Join(texts, " "))
	}
	return strings.Join(steps, "; ")
}

func TestFormat(t *testing.T) {
	right := rightSteps()
	for i, x := range right {
		for _, wait := range []int{0, 1, 10, 250, 1000000} {
			x.Wait = wait
			for _, l := range [][]api.Step{{x}, {right[0], x}, {x, right[(7*i+3)%len(right)], x}} {
				s, e := stroke.Format(l)
				expect(t, "Format", s, e, textOf(l), api.OK)
			}
		}
	}
	for _, x := range []struct {
		l []api.Step
		s string
	}{
		{nil, ""}, {[]api.Step{}, ""}, {[]api.Step{step(200, out(0), in(1))}, "A+ B- 200"}, {[]api.Step{step(0, out(0)), step(0, out(1), out(2)), step(0, in(0))}, "A+; B+ C+; A-"}, {[]api.Step{step(1, in(5)), step(1, in(5))}, "F- 1; F- 1"},
	} {
		s, e := stroke.Format(x.l)
		expect(t, "Format", s, e, x.s, api.OK)
	}
}

func TestErrorsOfFormat(t *testing.T) {
	right := step(3, out(0), in(1))
	for _, x := range wrongSteps() {
		for _, l := range [][]api.Step{{x}, {right, x}, {x, right}, {right, x, {}}} {
			s, e := stroke.Format(l)
			if s != "" || e != stepError(x) {
				t.Errorf("Format %v: %q and %d", l, s, e)
			}
		}
	}
	many := func(n int, x api.Step) []api.Step {
		var l []api.Step
		for range n {
			l = append(l, x)
		}
		return l
	}
	for _, x := range []struct {
		l []api.Step
		e api.Errno
	}{
		{many(64, right), api.OK}, {many(65, right), api.ErrMany}, {many(100000, right), api.ErrMany}, {many(65, api.Step{}), api.ErrMany}, {many(64, api.Step{}), api.ErrEmpty}, {append(many(63, right), step(0, in(6))), api.ErrRange}, {append(many(64, right), step(0, in(6))), api.ErrMany},
		{[]api.Step{step(0, in(1), in(0)), {}}, api.ErrOrder}, {[]api.Step{{}, step(0, in(1), in(0))}, api.ErrEmpty},
	} {
		s, e := stroke.Format(x.l)
		same(t, "error of Format", e, x.e)
		same(t, "Format", s == "", x.e != api.OK)
	}
}

// stepForm is the form of the text of a step, but for the order of its strokes.
var stepForm = regexp.MustCompile(`\A([A-F][+-])( [A-F][+-])*( [1-9][0-9]{0,6})?\z`)

// parsed follows the definition.
func parsed(text string) ([]api.Step, int, api.Errno) {
	if len(text) > 4096 {
		return nil, 0, api.ErrLong
	}
	var l []api.Step
	at := 0
	for i, part := range strings.Split(text, "; ") {
		switch {
		case text == "":
			return nil, 0, api.OK
		case i == 64:
			return nil, at, api.ErrMany
		case !stepForm.MatchString(part):
			return nil, at, api.ErrSyntax
		}
		var x api.Step
		for _, field := range strings.Split(part, " ") {
			if field[0] >= 'A' {
				x.Strokes = append(x.Strokes, api.Stroke{Actuator: strings.Index("ABCDEF", field[:1]), Out: field[1] == '+'})
			} else {
				x.Wait, _ = strconv.Atoi(field)
			}
		}
		if e := stepError(x); e != api.OK {
			return nil, at, e
		}
		l = append(l, x)
		at += len(part) + 2
	}
	return l, 0, api.OK
}

func checkParse(t *testing.T, text string) api.Errno {
	t.Helper()
	what := "Parse " + strconv.Quote(text)
	if len(text) > 80 {
		what = "Parse of " + strconv.Itoa(len(text)) + " bytes"
	}
	l, at, e := stroke.Parse(text)
	expected, offset, f := parsed(text)
	expect(t, what, l, e, expected, f)
	same(t, "offset of "+what, at, offset)
	return f
}

func TestParseOfShortTexts(t *testing.T) {
	// All texts of up to 6 of these characters.
	l := []string{""}
	for first := 0; len(l[len(l)-1]) < 6; {
		last := len(l)
		for _, s := range l[first:last] {
			for _, c := range []string{"A", "B", "+", "-", "1", "0", ";", " "} {
				l = append(l, s+c)
			}
		}
		first = last
	}
	seen := map[api.Errno]int{}
	for _, s := range l {
		seen[checkParse(t, s)]++
	}
	for _, e := range []api.Errno{api.OK, api.ErrSyntax, api.ErrTwice, api.ErrOrder} {
		if seen[e] < 3 {
			t.Errorf("only %d texts with the error %d", seen[e], e)
		}
	}
}

func TestParseOfRandomTexts(t *testing.T) {
	r := rand.New(rand.NewSource(132))
	odd := []string{"G+", "a+", "A", "+", "A+B+", "", "0", "007", "12345678", "1000001", "9999999", "A+;", ";", "é+", "A\xff", "\x00", "-1", "+1", "1_0", "\n", "A=", "@+", "A,"}
	seen := map[api.Errno]int{}
	for range 30000 {
		var steps []string
		for range 1 + r.Intn(4) {
			var fields []string
			for actuator := range 6 {
				if k := r.Intn(4); k < 2 {
					fields = append(fields, "ABCDEF"[actuator:actuator+1]+"+-"[k:k+1])
				}
			}
			if r.Intn(3) == 0 {
				fields = append(fields, strconv.Itoa(1+r.Intn(1000000)))
			}
			if len(fields) > 0 && r.Intn(12) == 0 {
				fields[r.Intn(len(fields))] = odd[r.Intn(len(odd))]
			}
			if r.Intn(12) == 0 {
				r.Shuffle(len(fields), func(i, k int) { fields[i], fields[k] = fields[k], fields[i] })
			}
			steps = append(steps, strings.Join(fields, " "))
		}
		seen[checkParse(t, strings.Join(steps, "; "))]++
	}
	for _, e := range []api.Errno{api.OK, api.ErrSyntax, api.ErrRange, api.ErrOrder} {
		if seen[e] < 10 {
			t.Errorf("only %d texts with the error %d", seen[e], e)
		}
	}
}

func TestErrorsOfParse(t *testing.T) {
	repeat := strings.Repeat
	for _, x := range []struct {
		text string
		at   int
		e    api.Errno
	}{
		// What cannot be the text of a step.
		{"A+;B+", 0, api.ErrSyntax}, {"A+; ", 4, api.ErrSyntax}, {"; ", 0, api.ErrSyntax}, {"; A+", 0, api.ErrSyntax}, {"A+; ; B+", 4, api.ErrSyntax}, {"A+;; B+", 0, api.ErrSyntax}, {"A+;  B+", 4, api.ErrSyntax}, {"A+ ; B+", 0, api.ErrSyntax}, {"A+;", 0, api.ErrSyntax}, {";", 0, api.ErrSyntax}, {" ", 0, api.ErrSyntax}, {" A+", 0, api.ErrSyntax}, {"A+ ", 0, api.ErrSyntax}, {"A+  B+", 0, api.ErrSyntax}, {"A+\n", 0, api.ErrSyntax}, {"A+\tB+", 0, api.ErrSyntax}, {"A+B+", 0, api.ErrSyntax}, {"A +", 0, api.ErrSyntax}, {"+A", 0, api.ErrSyntax}, {"A", 0, api.ErrSyntax}, {"A++", 0, api.ErrSyntax},
		{"G+", 0, api.ErrSyntax}, {"@+", 0, api.ErrSyntax}, {"a+", 0, api.ErrSyntax}, {"Z-", 0, api.ErrSyntax}, {"A*", 0, api.ErrSyntax}, {"A,", 0, api.ErrSyntax}, {"é+", 0, api.ErrSyntax}, {"A\u2212", 0, api.ErrSyntax}, {"\uff21+", 0, api.ErrSyntax}, {"\xc1+", 0, api.ErrSyntax}, {"A\xff", 0, api.ErrSyntax}, {"A+\x00", 0, api.ErrSyntax}, {"A\u0301+", 0, api.ErrSyntax},
		{"A+ 0", 0, api.ErrSyntax}, {"A+ 05", 0, api.ErrSyntax}, {"A+ -5", 0, api.ErrSyntax}, {"A+ +5", 0, api.ErrSyntax}, {"A+ 00", 0, api.ErrSyntax}, {"A+ 1_0", 0, api.ErrSyntax}, {"A+ 5x", 0, api.ErrSyntax}, {"A+ 0x5", 0, api.ErrSyntax}, {"A+ 1e3", 0, api.ErrSyntax}, {"A+ \u0665", 0, api.ErrSyntax}, {"A+5", 0, api.ErrSyntax}, {"A+ 12345678", 0, api.ErrSyntax}, {"A+ 00000001", 0, api.ErrSyntax}, {"A+ 18446744073709551617", 0, api.ErrSyntax}, {"A+ 5 5", 0, api.ErrSyntax}, {"A+ 5 B+", 0, api.ErrSyntax}, {"A+ 5 ", 0, api.ErrSyntax}, {"5", 0, api.ErrSyntax}, {"5 A+", 0, api.ErrSyntax}, {"A+; 5", 4, api.ErrSyntax}, {" 5", 0, api.ErrSyntax},
		// What can be one but for the order of its strokes, or the size of its numbers.
		{"A+ 1000001", 0, api.ErrRange}, {"A+ 9999999", 0, api.ErrRange}, {"A+; B+ A+", 4, api.ErrOrder}, {"A+ A-", 0, api.ErrTwice}, {"A+ A+", 0, api.ErrTwice}, {"B+ A+ A-", 0, api.ErrOrder}, {"B- B+ A+", 0, api.ErrTwice}, {"B+ A+ 1000001", 0, api.ErrOrder}, {"B+ A+ 0", 0, api.ErrSyntax}, {"B+ A+ G+", 0, api.ErrSyntax}, {"A+ B+ C+ D+ E+ F+ A-", 0, api.ErrMany}, {"A+ A- A+ A- A+ A- A+ 9999999", 0, api.ErrMany},
		// The first step with an error counts.
		{"A+ A-; G+", 0, api.ErrTwice}, {"A+ 1000001; A+ A-", 0, api.ErrRange}, {"A+; B+ A-; 5; A+ A-", 4, api.ErrOrder}, {"A+ 250; B+; B- A-", 12, api.ErrOrder}, {"A+ B+ 9; ", 9, api.ErrSyntax}, {"A+; A+ A+;A-", 4, api.ErrSyntax},
		// Limits.
		{repeat("A+; ", 64) + "B+", 256, api.ErrMany}, {repeat("A+; ", 64), 256, api.ErrMany}, {repeat("A+; ", 64) + "x", 256, api.ErrMany}, {repeat("A+; ", 64) + "; ; ", 256, api.ErrMany}, {repeat("A+; ", 63), 252, api.ErrSyntax}, {repeat("A+; ", 63) + "B+;", 252, api.ErrSyntax}, {repeat("A+; ", 63) + "A+ A+; A+", 252, api.ErrTwice}, {repeat("A+; ", 63) + "A- 5; A+", 258, api.ErrMany}, {"G+; " + repeat("A+; ", 70), 0, api.ErrSyntax},
		{repeat("A+; ", 1024), 256, api.ErrMany}, {repeat("A+; ", 1024) + " ", 0, api.ErrLong}, {repeat("x", 4096), 0, api.ErrSyntax}, {repeat("x", 4097), 0, api.ErrLong}, {repeat("é", 2048), 0, api.ErrSyntax}, {repeat("é", 2049), 0, api.ErrLong}, {repeat("A+ ", 1365) + "A", 0, api.ErrSyntax}, {repeat("A+ ", 1364) + "A+", 0, api.ErrMany}, {repeat("A+ ", 1400) + "A+", 0, api.ErrLong}, {repeat(" ", 1<<20), 0, api.ErrLong},
	} {
		l, at, e := stroke.Parse(x.text)
		what := "Parse " + strconv.Quote(x.text)
		expect(t, what, l, e, []api.Step{}, x.e)
		same(t, "offset of "+what, at, x.at)
		checkParse(t, x.text)
	}
}

func TestParse(t *testing.T) {
	for text, expected := range map[string][]api.Step{
		"":                        nil,
		"A+ B- 200":               {step(200, out(0), in(1))},
		"A+; B+ C+; A-":           {step(0, out(0)), step(0, out(1), out(2)), step(0, in(0))},
		"A- B+ C- D+ E- F+ 1":     {step(1, in(0), out(1), in(2), out(3), in(4), out(5))},
		"F+ 1000000; F- 999999":   {step(1000000, out(5)), step(999999, in(5))},
		"A-; A-; A- 10; A-":       {step(0, in(0)), step(0, in(0)), step(10, in(0)), step(0, in(0))},
		"B+ 9; D- 90; B+ D- 9009": {step(9, out(1)), step(90, in(3)), step(9009, out(1), in(3))},
	} {
		l, at, e := stroke.Parse(text)
		expect(t, "Parse "+text, l, e, expected, api.OK)
		same(t, "offset of Parse", at, 0)
	}
	l, at, e := stroke.Parse(strings.Repeat("A+ B- 7; ", 63) + "F+")
	same(t, "Parse of 64 steps", len(l), 64)
	expect(t, "last one", l[63], e, step(0, out(5)), api.OK)
	same(t, "offset of Parse", at, 0)
}
