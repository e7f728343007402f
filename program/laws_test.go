package program_test

import (
	"fmt"
	"math/rand"
	"slices"
	"testing"

	"pneumatic/api"
	"pneumatic/program"
	"pneumatic/sequence"
)

// P15.3

func TestTextsAreReadBack(t *testing.T) {
	for _, n := range programs() {
		text, e := program.Format(n)
		if e == api.ErrLong {
			continue
		}
		same(t, "error of Format", e, api.OK)
		read, at, e := program.Parse(text)
		expect(t, "Parse "+text, read, e, n, api.OK)
		same(t, "offset of Parse", at, 0)
		same(t, "Same "+text, program.Same(read, n), true)
		again, e := program.Format(read)
		expect(t, "Format", again, e, text, api.OK)
	}
}

func TestNormalFormsDoTheSame(t *testing.T) {
	for _, n := range programs() {
		normal, e := program.Normal(n)
		expect(t, "Check", 0, e, 0, program.Check(normal))
		again, e := program.Normal(normal)
		expect(t, "Normal", program.Same(again, normal), e, true, api.OK)
		nodes, depth := sizeOf(n, 1)
		fewer, lower := sizeOf(normal, 1)
		same(t, "size of Normal "+textOf(n), fewer <= nodes && lower <= depth, true)
		for _, names := range on {
			l, e := program.Unfold(n, names)
			k, f := program.Unfold(normal, names)
			expect(t, "Unfold "+textOf(n), k, f, l, e)
			length, e := program.Length(n, names)
			other, f := program.Length(normal, names)
			expect(t, "Length "+textOf(n), other, f, length, e)
		}
	}
}

func TestRepeatsDoWhatTheirNodeDoes(t *testing.T) {
	for _, n := range programs() {
		for count := range 4 {
			twice := repeat(count+1, n)
			if nodeError(twice) != api.OK {
				continue
			}
			l, e := program.Unfold(n, nil)
			k, f := program.Unfold(twice, nil)
			if e == api.OK && len(l)*(count+1) <= 64 {
				expect(t, "Unfold "+textOf(twice), k, f, slices.Repeat(l, count+1), api.OK)
			} else {
				expect(t, "Unfold "+textOf(twice), k, f, []api.Step{}, api.ErrLimit)
			}
		}
	}
}

func TestInputsThatDoNotOccurDoNotMatter(t *testing.T) {
	for _, n := range programs() {
		names, _ := program.Inputs(n)
		for _, l := range on {
			mattering := slices.DeleteFunc(slices.Clone(l), func(name string) bool { return !slices.Contains(names, name) })
			s, e := program.Sequence(n, l)
			k, f := program.Sequence(n, append(mattering, "other", "$"))
			expect(t, "Sequence "+textOf(n), k, f, s, e)
		}
	}
}

func TestProgramsThatAreNotFaulty(t *testing.T) {
	r := rand.New(rand.NewSource(154))
	number := 0
	for _, n := range programs() {
		l, reason, e := program.Faulty(n)
		if e != api.OK {
			continue
		}
		names, _ := program.Inputs(n)
		if reason != api.OK {
			_, f := program.Sequence(n, l)
			same(t, "error of Sequence "+textOf(n), f, reason)
			continue
		}
		number++
		for _, on := range append(allLists(names), words, []string{"x"}) {
			r.Shuffle(len(on), func(i, k int) { on[i], on[k] = on[k], on[i] })
			s, e := program.Sequence(n, on)
			same(t, "error of Sequence "+textOf(n), e, api.OK)
			same(t, "Check "+textOf(n), sequence.Check(s), api.OK)
		}
	}
	if number < 300 {
		t.Errorf("only %d programs are not faulty", number)
	}
}

// The rules of all layers about memory

// spoil writes to all memory of steps, also behind their ends.
func spoil(l []api.Step) {
	for i := range l {
		strokes := l[i].Strokes[:cap(l[i].Strokes)]
		for k := range strokes {
			strokes[k] = in(9)
		}
	}
	clear(l[:cap(l)])
}

// spoilNode writes to all memory of a program.
func spoilNode(n *api.Node) {
	for i := range n.Nodes {
		spoilNode(&n.Nodes[i])
	}
	clear(n.Nodes[:cap(n.Nodes)])
	spoil([]api.Step{n.Step})
}

func TestArgumentsAndResultsAreNotShared(t *testing.T) {
	text := "{ A+ B+; repeat 2 { if x { B- 5 } else B-; B+ }; repeat 1 { A- B- } }"
	n, _, _ := program.Parse(text)
	kept := copied(n)
	names := []string{"x", "y"}
	for range 2 {
		l, e := program.Unfold(n, names)
		expect(t, "Unfold", l, e, done(kept, names, 64), api.OK)
		// The steps of a repeat are not shared with each other.
		l[1].Strokes[0] = in(5)
		expect(t, "Unfold", l[3], api.OK, one("B- 5").Step, api.OK)
		spoil(l)
		s, e := program.Sequence(n, names)
		expect(t, "Sequence", s.Steps, e, done(kept, names, 64), api.OK)
		spoil(s.Steps)
		normal, e := program.Normal(n)
		same(t, "Normal", textOf(normal), "{ A+ B+; repeat 2 { if x B- 5 else B-; B+ }; A- B- }")
		same(t, "error of Normal", e, api.OK)
		spoilNode(&normal)
		inputs, e := program.Inputs(n)
		expect(t, "Inputs", inputs, e, []string{"x"}, api.OK)
		clear(inputs[:cap(inputs)])
		again, e := program.Format(n)
		expect(t, "Format", again, e, text, api.OK)
		read, _, e := program.Parse(text)
		expect(t, "Parse", read, e, kept, api.OK)
		spoilNode(&read)
		on, reason, e := program.Faulty(list(n, choice("y", one("A-"), list(steps("A+; A-")...))))
		expect(t, "Faulty", on, e, []string{"y"}, api.OK)
		same(t, "reason of Faulty", reason, api.ErrState)
		clear(on[:cap(on)])
		program.Same(n, kept)
		program.Length(n, names)
	}
	same(t, "argument", fmt.Sprint(n), fmt.Sprint(kept))
	same(t, "argument", fmt.Sprint(names), "[x y]")
}
