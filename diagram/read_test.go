package diagram_test

import (
	"fmt"
	"math/rand"
	"slices"
	"strconv"
	"strings"
	"testing"

	"pneumatic/api"
	"pneumatic/diagram"
	"pneumatic/sequence"
)

// P16.1: Read, P16.2: Unscale

// known is the sequence with a diagram, and the number of first bytes of each step.
type known struct {
	s      api.Sequence
	widths []int
}

// joined returns a key for lines.
func joined(lines []string) string { return strings.Join(lines, "\n") }

// allKnown returns all diagrams with times, of sequences with up to 4 steps and lines of so many bytes at most.
func allKnown(most int) map[string]known {
	all := map[string]known{}
	for _, s := range shortSequences(4) {
		for _, widths := range allWidths(len(s.Steps), most-3) {
			all[joined(drawn(s, widths))] = known{s, widths}
		}
	}
	return all
}

// allWidths returns the lists of so many numbers of first bytes, with which the steps have so many bytes at most.
func allWidths(n, most int) [][]int {
	if n == 0 {
		return [][]int{nil}
	}
	var all [][]int
	for width := 1; width+1 <= most; width++ {
		for _, rest := range allWidths(n-1, most-width-1) {
			all = append(all, append([]int{width}, rest...))
		}
	}
	return all
}

// texts returns all texts of up to so many of some characters.
func texts(characters string, most int) []string {
	l := []string{""}
	for first := 0; most > 0; most-- {
		last := len(l)
		for _, s := range l[first:last] {
			for _, c := range strings.Split(characters, "") {
				l = append(l, s+c)
			}
		}
		first = last
	}
	return l
}

// checkLines compares Read and Unscale of lines that are not too long, and of at most three actuators, with what is known.
func checkLines(t *testing.T, all map[string]known, lines []string) {
	t.Helper()
	x, ok := all[joined(lines)]
	f := api.ErrSyntax
	if ok {
		f = api.OK
	}
	s, widths, e := diagram.Unscale(lines)
	if !sequence.Same(s, x.s) || !slices.Equal(widths, x.widths) || e != f {
		t.Errorf("Unscale %q: %v %v %d instead of %v %v %d", lines, s, widths, e, x.s, x.widths, f)
	}
	if !ok || slices.Max(x.widths) > 1 {
		x, f = known{}, api.ErrSyntax
	}
	s, e = diagram.Read(lines)
	if !sequence.Same(s, x.s) || e != f {
		t.Errorf("Read %q: %v %d instead of %v %d", lines, s, e, x.s, f)
	}
}

func TestReadAllShortLines(t *testing.T) {
	all := allKnown(10)
	if len(all) < 100 {
		t.Errorf("only %d diagrams", len(all))
	}
	for _, rest := range texts(`_-/\`, 7) {
		checkLines(t, all, []string{"A _" + rest})
	}
	short := texts(`_-/\`, 4)
	for _, first := range short {
		for _, second := range short {
			checkLines(t, all, []string{"A _" + first, "B _" + second})
		}
	}
}

func TestReadChangedDiagrams(t *testing.T) {
	// Each line of a known diagram is changed at each place; what comes out is known, or no diagram.
	all := allKnown(11)
	odd := append(strings.Split(`_-/\|AB T0#`, ""), "", "é", "\xff", "\n", "__", "/-")
	for text := range all {
		lines := strings.Split(text, "\n")
		checkLines(t, all, lines)
		if len(lines[0]) > 9 {
			// With two more bytes it would be longer than those that are known.
			continue
		}
		for i, line := range lines {
			for k := range len(line) + 1 {
				for _, c := range odd {
					other := slices.Clone(lines)
					other[i] = line[:k] + c + line[min(k+1, len(line)):]
					checkLines(t, all, other)
				}
			}
			checkLines(t, all, slices.Delete(slices.Clone(lines), i, i+1))
			checkLines(t, all, slices.Insert(slices.Clone(lines), i, line))
			checkLines(t, all, slices.Insert(slices.Clone(lines), i, ""))
		}
		slices.Reverse(lines)
		checkLines(t, all, lines)
	}
}

// readAt reads the steps of two bytes each, by their places, and compares the diagram.
func readAt(lines []string) (api.Sequence, api.Errno) {
	var s api.Sequence
	for _, line := range lines {
		if strings.HasPrefix(line, "T") && s.Actuators == len(lines)-1 {
			continue
		}
		for k := range (len(line) - 3) / 2 {
			for len(s.Steps) <= k {
				s.Steps = append(s.Steps, api.Step{})
			}
			if b := line[3+2*k]; b == '/' || b == '\\' {
				s.Steps[k].Strokes = append(s.Steps[k].Strokes, api.Stroke{Actuator: s.Actuators, Out: b == '/'})
			}
		}
		s.Actuators++
	}
	if s.Actuators < len(lines) {
		for k, field := range strings.Fields(lines[len(lines)-1])[1:] {
			if k < len(s.Steps) {
				s.Steps[k].Wait, _ = strconv.Atoi(field)
			}
		}
	}
	if sequence.Check(s) != api.OK || !slices.Equal(diagramOf(s), lines) {
		return api.Sequence{}, api.ErrSyntax
	}
	return s, api.OK
}

func TestReadChangedDiagramsOfRandomSequences(t *testing.T) {
	r := rand.New(rand.NewSource(164))
	number := 0
	for _, s := range sequences() {
		for range 5 {
			lines := diagramOf(s)
			i := r.Intn(len(lines))
			if r.Intn(2) == 0 {
				i = len(lines) - 1
			}
			k := r.Intn(len(lines[i]))
			lines[i] = lines[i][:k] + string(`_-/\|ABT0159 .`[r.Intn(14)]) + lines[i][k+1:]
			expected, f := readAt(lines)
			got, e := diagram.Read(lines)
			expect(t, "Read "+strconv.Quote(joined(lines)), got, e, expected, f)
			if f == api.OK && !slices.Equal(lines, diagramOf(s)) {
				number++
			}
		}
	}
	if number < 50 {
		t.Errorf("only %d changed diagrams can be read", number)
	}
}

func TestRead(t *testing.T) {
	long := func(n int) string { return "A _" + strings.Repeat("/", n-6) + "-\\_" }
	for _, x := range []struct {
		lines []string
		text  string
		e     api.Errno
	}{
		{[]string{"A _/---\\_", "B ___/-\\_", "T 0 50 0"}, "A+; B+ 50; A- B-", api.OK}, {[]string{"A _/---\\_", "B ___/-\\_"}, "A+; B+; A- B-", api.OK}, {[]string{"A _/-\\_", "T 1000000 1000000"}, "A+ 1000000; A- 1000000", api.OK}, {[]string{"A _/-\\_", "T 0 9"}, "A+; A- 9", api.OK}, {[]string{"A _/-\\_/-\\_", "T 1 0 0 0"}, "A+ 1; A-; A+; A-", api.OK},
		// Lines of delays that are not those of a diagram.
		{[]string{"A _/-\\_", "T 0 0"}, "", api.ErrSyntax}, {[]string{"A _/-\\_", "T"}, "", api.ErrSyntax}, {[]string{"A _/-\\_", "T 1"}, "", api.ErrSyntax}, {[]string{"A _/-\\_", "T 1 2 3"}, "", api.ErrSyntax}, {[]string{"A _/-\\_", "T 1 2 "}, "", api.ErrSyntax}, {[]string{"A _/-\\_", "T  1 2"}, "", api.ErrSyntax}, {[]string{"A _/-\\_", "T 1\t2"}, "", api.ErrSyntax}, {[]string{"A _/-\\_", "T1 2"}, "", api.ErrSyntax}, {[]string{"A _/-\\_", "T 1 02"}, "", api.ErrSyntax}, {[]string{"A _/-\\_", "T 1 -2"}, "", api.ErrSyntax}, {[]string{"A _/-\\_", "T 1 +2"}, "", api.ErrSyntax}, {[]string{"A _/-\\_", "T 1 x"}, "", api.ErrSyntax}, {[]string{"A _/-\\_", "T 1 1000001"}, "", api.ErrSyntax}, {[]string{"A _/-\\_", "T 1 9999999"}, "", api.ErrSyntax}, {[]string{"A _/-\\_", "T 1 12345678"}, "", api.ErrSyntax}, {[]string{"A _/-\\_", "T 1 18446744073709551617"}, "", api.ErrSyntax}, {[]string{"A _/-\\_", "t 1 2"}, "", api.ErrSyntax}, {[]string{"A _/-\\_", " T 1 2"}, "", api.ErrSyntax}, {[]string{"T 1 2", "A _/-\\_"}, "", api.ErrSyntax}, {[]string{"A _/-\\_", "T 1 2", "T 1 2"}, "", api.ErrSyntax}, {[]string{"T 1 2"}, "", api.ErrSyntax}, {[]string{"T"}, "", api.ErrSyntax}, {[]string{"A _/-\\_", ""}, "", api.ErrSyntax},
		// Lines of actuators that are not those of a diagram.
		{nil, "", api.ErrSyntax}, {[]string{""}, "", api.ErrSyntax}, {[]string{"A"}, "", api.ErrSyntax}, {[]string{"A _"}, "", api.ErrSyntax}, {[]string{"A _/-"}, "", api.ErrSyntax}, {[]string{"A _/"}, "", api.ErrSyntax}, {[]string{"A _/-\\"}, "", api.ErrSyntax}, {[]string{"A _//-\\_"}, "", api.ErrSyntax}, {[]string{"A _/-\\_ "}, "", api.ErrSyntax}, {[]string{"a _/-\\_"}, "", api.ErrSyntax}, {[]string{"B _/-\\_"}, "", api.ErrSyntax}, {[]string{"A _/-\\_\n"}, "", api.ErrSyntax}, {[]string{"A -\\_/-"}, "", api.ErrSyntax}, {[]string{"A _/_\\_"}, "", api.ErrSyntax}, {[]string{"A _/-\\-"}, "", api.ErrSyntax}, {[]string{"A _/---\\_"}, "", api.ErrSyntax}, {[]string{"A _/-\\___"}, "", api.ErrSyntax}, {[]string{"A _/-\\_", "B _____"}, "", api.ErrSyntax}, {[]string{"A _/-\\_", "B _/-\\_/-\\_"}, "", api.ErrSyntax}, {[]string{"A _/-\\_", "C _/-\\_"}, "", api.ErrSyntax}, {[]string{"A _|/-|\\_"}, "", api.ErrSyntax}, {[]string{"A _é-\\_"}, "", api.ErrSyntax}, {[]string{"A _/-\xff_"}, "", api.ErrSyntax},
		{drawn(api.Sequence{Actuators: 1, Steps: slices.Repeat(read("A+; A-").Steps, 32)}, nil), strings.Repeat("A+; A-; ", 31) + "A+; A-", api.OK}, {drawn(api.Sequence{Actuators: 1, Steps: slices.Repeat(read("A+; A-").Steps, 33)}, nil), "", api.ErrSyntax},
		// Limits.
		{slices.Repeat([]string{"A _/-\\_"}, 7), "", api.ErrSyntax}, {slices.Repeat([]string{"A _/-\\_"}, 8), "", api.ErrMany}, {slices.Repeat([]string{long(5000)}, 8), "", api.ErrMany}, {make([]string, 1<<20), "", api.ErrMany}, {[]string{long(4096)}, "", api.ErrSyntax}, {[]string{long(4097)}, "", api.ErrLong}, {[]string{"x", "y", long(4097)}, "", api.ErrLong}, {[]string{"A _/-\\_", "T 1 2" + strings.Repeat(" ", 4092)}, "", api.ErrLong}, {[]string{"A _/-\\_", "T 1 2" + strings.Repeat(" ", 4091)}, "", api.ErrSyntax}, {[]string{strings.Repeat("/\\", 2048)}, "", api.ErrSyntax}, {[]string{"A _" + strings.Repeat("/-\\_", 1023)}, "", api.ErrSyntax}, {slices.Repeat([]string{"A _" + strings.Repeat("/", 4093)}, 6), "", api.ErrSyntax}, {[]string{"A _" + strings.Repeat("/-", 2046), "B _" + strings.Repeat("\\", 4093)}, "", api.ErrSyntax},
	} {
		s, e := diagram.Read(x.lines)
		expected := api.Sequence{}
		if x.e == api.OK {
			expected = read(x.text)
		}
		expect(t, fmt.Sprintf("Read %.200q", x.lines), s, e, expected, x.e)
	}
	six := read("A+ B+ C+ D+ E+ F+ 5; A- B- C- D- E- F-")
	s, e := diagram.Read(diagramOf(six))
	expect(t, "Read", s, e, six, api.OK)
	// There are seven lines for an actuator each.
	s, e = diagram.Read(append(drawn(six, nil), "G _/-\\_"))
	expect(t, "Read", s, e, api.Sequence{}, api.ErrSyntax)
}

func TestUnscale(t *testing.T) {
	for _, x := range []struct {
		lines  []string
		text   string
		widths []int
		e      api.Errno
	}{
		{[]string{"A _/-----\\\\\\_", "B ___///-\\\\\\_"}, "A+; B+; A- B-", []int{1, 3, 3}, api.OK}, {[]string{"A _/---\\_", "B ___/-\\_"}, "A+; B+; A- B-", []int{1, 1, 1}, api.OK}, {[]string{"A _//-\\_"}, "A+; A-", []int{2, 1}, api.OK}, {drawn(read("A+; A-"), []int{4090, 1}), "A+; A-", []int{4090, 1}, api.OK},
		{[]string{"A _/-\\_", "T 1 2"}, "", nil, api.ErrSyntax}, {[]string{"A _/---\\_", "B ___/-\\\\_"}, "", nil, api.ErrSyntax}, {[]string{"A _//-\\_", "B _/--\\_"}, "", nil, api.ErrSyntax}, {[]string{"A _/--\\_", "B _//-\\_"}, "", nil, api.ErrSyntax}, {[]string{"A _/\\-_"}, "", nil, api.ErrSyntax}, {[]string{"A _/--\\_"}, "", nil, api.ErrSyntax}, {[]string{"A __/-\\_"}, "", nil, api.ErrSyntax}, {[]string{"A _//-"}, "", nil, api.ErrSyntax}, {nil, "", nil, api.ErrSyntax}, {[]string{""}, "", nil, api.ErrSyntax}, {[]string{"A _"}, "", nil, api.ErrSyntax},
		{slices.Repeat([]string{"A _/-\\_"}, 6), "", nil, api.ErrSyntax}, {slices.Repeat([]string{"A _/-\\_"}, 7), "", nil, api.ErrMany}, {slices.Repeat([]string{strings.Repeat("x", 4097)}, 7), "", nil, api.ErrMany}, {[]string{"x", strings.Repeat("x", 4097)}, "", nil, api.ErrLong}, {[]string{"x", strings.Repeat("x", 4096)}, "", nil, api.ErrSyntax}, {drawn(read("A+; A-"), []int{4091, 1}), "", nil, api.ErrLong},
	} {
		s, widths, e := diagram.Unscale(x.lines)
		expected := api.Sequence{}
		if x.e == api.OK {
			expected = read(x.text)
		}
		expect(t, fmt.Sprintf("Unscale %.200q", x.lines), s, e, expected, x.e)
		expect(t, "widths", widths, e, x.widths, x.e)
	}
	seven := append(diagramOf(read("A+ B+ C+ D+ E+ F+ 5; A- B- C- D- E- F-")), "")
	_, _, e := diagram.Unscale(seven[:7])
	same(t, "error of Unscale", e, api.ErrMany)
	_, _, e = diagram.Unscale(seven[:6])
	same(t, "error of Unscale", e, api.OK)
}
