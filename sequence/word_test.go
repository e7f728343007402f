package sequence_test

import (
	"fmt"
	"math"
	"math/rand"
	"slices"
	"strconv"
	"strings"
	"testing"

	"pneumatic/api"
	"pneumatic/sequence"
	"pneumatic/stroke"
)

// P14.2

// strokeLists returns all lists of up to so many of some strokes.
func strokeLists(most int, strokes ...api.Stroke) [][]api.Stroke {
	l := [][]api.Stroke{nil}
	for first := 0; most > 0; most-- {
		last := len(l)
		for _, word := range l[first:last] {
			for _, s := range strokes {
				l = append(l, append(slices.Clone(word), s))
			}
		}
		first = last
	}
	return l
}

func TestAcceptsAllWordsAlone(t *testing.T) {
	lists := strokeLists(6, out(0), in(0), out(1), in(1))
	for _, text := range []string{"A+; A-", "A+; A-; A+; A-", "A+ B+; A- B-", "A+; B+; B-; A-", "A+ B+; A-; B-", "A+; B+; A- B-", "A+; A-; B+; B-", "A+; A- B+; B-", "A+ B+; A-; A+; A- B-", "B+; A+ B-; A-", "A+; A- B+; A+ B-; A-"} {
		s := read(t, lettersIn(text), text)
		same(t, "error of "+text, sequenceError(s), api.OK)
		isWord := map[string]bool{}
		for _, word := range wordsOf(s.Steps) {
			isWord[fmt.Sprint(word)] = true
		}
		accepted := 0
		for _, word := range lists {
			ok, e := sequence.Accepts(s, word)
			if ok != isWord[fmt.Sprint(word)] || e != api.OK {
				t.Errorf("%s: %v %d of %v", named("Accepts", s), ok, e, word)
			}
			if ok {
				accepted++
			}
		}
		same(t, named("number of words of", s), accepted, len(isWord))
		n, _ := sequence.Words(s)
		same(t, named("Words", s), n, accepted)
	}
}

func TestAccepts(t *testing.T) {
	s := read(t, 3, "A+ B+ C+; A-; B- C- 70")
	for _, x := range []struct {
		word []api.Stroke
		ok   bool
	}{
		{[]api.Stroke{out(0), out(1), out(2), in(0), in(1), in(2)}, true}, {[]api.Stroke{out(2), out(1), out(0), in(0), in(2), in(1)}, true}, {[]api.Stroke{out(1), out(2), out(0), in(0), in(1), in(2)}, true},
		{nil, false}, {[]api.Stroke{out(0)}, false}, {[]api.Stroke{out(0), out(1), out(2)}, false}, {[]api.Stroke{out(0), out(1), out(2), in(0), in(1)}, false}, {[]api.Stroke{out(0), out(1), out(2), in(0), in(1), in(2), out(0)}, false}, {[]api.Stroke{out(0), out(1), out(2), in(0), in(1), in(2), in(2)}, false},
		{[]api.Stroke{out(0), out(1), in(0), out(2), in(1), in(2)}, false}, {[]api.Stroke{out(0), out(1), out(2), in(1), in(0), in(2)}, false}, {[]api.Stroke{out(0), out(0), out(2), in(0), in(1), in(2)}, false}, {[]api.Stroke{out(0), out(1), out(2), in(0), in(1), in(1)}, false}, {[]api.Stroke{out(0), out(1), in(2), in(0), in(1), in(2)}, false}, {[]api.Stroke{in(0), in(1), in(2), out(0), out(1), out(2)}, false},
		{[]api.Stroke{out(0), out(1), out(9), in(0), in(1), in(2)}, false}, {[]api.Stroke{out(0), out(1), out(2), in(0), in(1), in(-1)}, false}, {[]api.Stroke{in(math.MinInt)}, false}, {[]api.Stroke{out(0), out(1), out(2), in(0), in(1), in(2), in(math.MaxInt)}, false}, {make([]api.Stroke, 100000), false},
	} {
		ok, e := sequence.Accepts(s, x.word)
		expect(t, named("Accepts", s), ok, e, x.ok, api.OK)
	}
	word, _ := sequence.Word(s)
	ok, e := sequence.Accepts(s, append(word, word...))
	expect(t, "Accepts of two cycles", ok, e, false, api.OK)
}

func TestText(t *testing.T) {
	for _, s := range rightSequences() {
		expected, f := stroke.Format(s.Steps)
		text, e := sequence.Text(s)
		expect(t, named("Text", s), text, e, expected, f)
	}
	for _, text := range []string{"A+; A-", "A+ B+; A- B-", "A+; B+ 50; B-; A- 1000000", "B+; A+; A-; B-"} {
		s, at, e := sequence.Parse(text)
		expect(t, "Parse "+text, s, e, read(t, lettersIn(text), text), api.OK)
		same(t, "offset of Parse", at, 0)
		again, e := sequence.Text(s)
		expect(t, "Text", again, e, text, api.OK)
	}
}

// parsed follows the definition.
func parsed(text string) (api.Sequence, int, api.Errno) {
	l, at, e := stroke.Parse(text)
	if e != api.OK {
		return api.Sequence{}, at, e
	}
	if text == "" {
		return api.Sequence{}, 0, api.ErrEmpty
	}
	s := of(lettersIn(text), l...)
	if e := sequenceError(s); e != api.OK {
		return api.Sequence{}, 0, e
	}
	return s, 0, api.OK
}

func TestParse(t *testing.T) {
	var texts []string
	for _, s := range sequences() {
		if text, e := stroke.Format(s.Steps); e == api.OK {
			texts = append(texts, text)
		}
	}
	r := rand.New(rand.NewSource(142))
	for _, s := range rightSequences() {
		// A byte is changed.
		text, _ := sequence.Text(s)
		k := r.Intn(len(text))
		texts = append(texts, text[:k]+string("ABCF+- ;10$"[r.Intn(11)])+text[k+1:])
	}
	seen := map[api.Errno]int{}
	for _, text := range texts {
		expected, offset, f := parsed(text)
		seen[f]++
		s, at, e := sequence.Parse(text)
		if fmt.Sprint(s) != fmt.Sprint(expected) || at != offset || e != f {
			t.Errorf("Parse %q: %v %d %d instead of %v %d %d", text, s, at, e, expected, offset, f)
		}
	}
	for _, e := range []api.Errno{api.OK, api.ErrEmpty, api.ErrSyntax, api.ErrState, api.ErrOrder, api.ErrTwice} {
		if seen[e] < 10 {
			t.Errorf("only %d texts with the error %d", seen[e], e)
		}
	}
}

func TestErrorsOfParse(t *testing.T) {
	repeat := strings.Repeat
	for _, x := range []struct {
		text string
		at   int
		e    api.Errno
	}{
		{"", 0, api.ErrEmpty}, {" ", 0, api.ErrSyntax}, {"A+; ", 4, api.ErrSyntax}, {"A+;A-", 0, api.ErrSyntax}, {"A+; G-", 4, api.ErrSyntax}, {"A+; B+ A-", 4, api.ErrOrder}, {"A+; B+ B-", 4, api.ErrTwice}, {"A-; A+ 1000001", 4, api.ErrRange}, {"A+; A-; 5", 8, api.ErrSyntax},
		{"A-", 0, api.ErrState}, {"A+; A+", 0, api.ErrState}, {"A+; B+; B-; A+", 0, api.ErrState}, {"A+; B-", 0, api.ErrState}, {"A+", 0, api.ErrOrder}, {"A+; B+; A-", 0, api.ErrOrder}, {"B+", 0, api.ErrOrder}, {"B+; B-", 0, api.ErrEmpty}, {"A+ C+; A- C-", 0, api.ErrEmpty}, {"F+; F-", 0, api.ErrEmpty}, {"B+; A-", 0, api.ErrState},
		{repeat("A+; A-; ", 32) + "A+", 256, api.ErrMany}, {repeat("A+; A-; ", 31) + "A+; B-", 0, api.ErrState}, {repeat("A+; A-; ", 40) + "x", 256, api.ErrMany}, {repeat("x", 4096), 0, api.ErrSyntax}, {repeat("x", 4097), 0, api.ErrLong}, {repeat("A+; A-; ", 1000), 0, api.ErrLong},
	} {
		s, at, e := sequence.Parse(x.text)
		what := "Parse " + strconv.Quote(x.text)
		expect(t, what, s, e, api.Sequence{}, x.e)
		same(t, "offset of "+what, at, x.at)
	}
	s, at, e := sequence.Parse(repeat("A+; A-; ", 31) + "A+; A-")
	expect(t, "Parse of 64 steps", s, e, of(1, turns(32)...), api.OK)
	same(t, "offset of Parse", at, 0)
	s, _, e = sequence.Parse("F+; A+ B+ C+ D+ E+ 3; A- B- C- D- E- F-")
	same(t, "actuators", s.Actuators, 6)
	same(t, "error of Parse", e, api.OK)
}

func TestMoves(t *testing.T) {
	for _, s := range rightSequences() {
		for actuator := range s.Actuators {
			var expected []int
			for k, x := range s.Steps {
				if slices.Contains(x.Strokes, in(actuator)) || slices.Contains(x.Strokes, out(actuator)) {
					expected = append(expected, k)
				}
			}
			l, e := sequence.Moves(s, actuator)
			if !slices.Equal(l, expected) || e != api.OK {
				t.Errorf("%s %d: %v and %d instead of %v", named("Moves", s), actuator, l, e, expected)
			}
		}
		for _, actuator := range []int{-1, s.Actuators, 6, 7, api.None, math.MinInt, math.MaxInt} {
			l, e := sequence.Moves(s, actuator)
			if len(l) > 0 || e != api.ErrRange {
				t.Errorf("%s %d: %v and %d", named("Moves", s), actuator, l, e)
			}
		}
	}
	s := read(t, 2, "A+; B+; B-; A-; B+; B- 7")
	for _, x := range []struct {
		actuator int
		l        []int
		e        api.Errno
	}{{0, []int{0, 3}, api.OK}, {1, []int{1, 2, 4, 5}, api.OK}, {2, []int{}, api.ErrRange}, {-1, []int{}, api.ErrRange}} {
		l, e := sequence.Moves(s, x.actuator)
		expect(t, "Moves", l, e, x.l, x.e)
	}
}

func TestRepeats(t *testing.T) {
	for _, s := range rightSequences() {
		var expected []int
		for k := range s.Steps {
			for i := range k {
				if slices.Equal(endsOf(s, i), endsOf(s, k)) {
					expected = append(expected, k)
					break
				}
			}
		}
		l, e := sequence.Repeats(s)
		if !slices.Equal(l, expected) || e != api.OK {
			t.Errorf("%s: %v and %d instead of %v", named("Repeats", s), l, e, expected)
		}
	}
	for text, expected := range map[string][]int{
		"A+; B+; B-; A-": {3}, "A+ B+; A- B-": {}, "A+; B+; A-; B-": {}, "A+; A-; B+; B-": {2}, "A+; A-; A+ B+; A-; A+; A- B-": {2, 5}, "B+; A+; A-; B-; A+; A-": {3, 4},
		"A+; B+; B-; B+; B-; A-": {3, 4, 5}, "A+ 5; B+; B-; A- 5; A+ B+; B-; A-": {3, 4, 5, 6},
	} {
		s := read(t, 2, text)
		l, e := sequence.Repeats(s)
		expect(t, "Repeats "+text, l, e, expected, api.OK)
	}
	l, e := sequence.Repeats(of(1, turns(3)...))
	expect(t, "Repeats", l, e, []int{2, 3, 4, 5}, api.OK)
}
