package variant_test

import (
	"fmt"
	"math/rand"
	"slices"
	"testing"

	"pneumatic/api"
	"pneumatic/sequence"
	"pneumatic/variant"
)

// P19.3

// changed returns all sequences that follow from one, by the names of what they are.
func changed(r *rand.Rand, s api.Sequence) map[string]api.Sequence {
	all := map[string]api.Sequence{}
	add := func(what string, x api.Sequence, e api.Errno) {
		if e == api.OK {
			all[what] = x
		}
	}
	for _, to := range someRenamings(r, s.Actuators) {
		x, e := variant.Rename(s, to)
		add(fmt.Sprint("Rename ", to), x, e)
	}
	standard, _, e := variant.Standard(s)
	add("Standard", standard, e)
	back, e := variant.Backwards(s)
	add("Backwards", back, e)
	for k := range s.Steps {
		x, e := variant.From(s, k)
		add(fmt.Sprint("From ", k), x, e)
		x, e = variant.Merge(s, k)
		add(fmt.Sprint("Merge ", k), x, e)
	}
	parts, e := variant.Parts(s)
	for i, part := range parts {
		add(fmt.Sprint("Parts ", i), part, e)
	}
	twice, e := variant.Join(s, s)
	add("Join", twice, e)
	return all
}

func TestAllResultsCanBeCarriedOut(t *testing.T) {
	r := rand.New(rand.NewSource(195))
	for _, s := range sequences() {
		all := changed(r, s)
		same(t, named("results", s, len(all)), len(all) >= 5, true)
		for what, x := range all {
			same(t, named(what, s, x), sequence.Check(x), api.OK)
		}
	}
}

func TestRenamingAndTheOppositeCancelOut(t *testing.T) {
	r := rand.New(rand.NewSource(196))
	for _, s := range sequences() {
		for _, to := range someRenamings(r, s.Actuators) {
			back := make([]int, len(to))
			for i, k := range to {
				back[k] = i
			}
			renamed, _ := variant.Rename(s, to)
			again, e := variant.Rename(renamed, back)
			expect(t, named("Rename", s, to), again, e, s, api.OK)
			alike, e := variant.Alike(s, renamed)
			expect(t, named("Alike", s, to), alike, e, true, api.OK)
			words, f := sequence.Words(s)
			others, e := sequence.Words(renamed)
			expect(t, named("Words", s, to), others, e, words, f)
		}
		standard, to, _ := variant.Standard(s)
		renamed, e := variant.Rename(s, to)
		expect(t, named("Rename", s, to), renamed, e, standard, api.OK)
		again, letters, e := variant.Standard(standard)
		expect(t, named("Standard", s, to), again, e, standard, api.OK)
		same(t, named("Standard", s, to), slices.IsSorted(letters), true)
	}
}

func TestBackwardsTwice(t *testing.T) {
	for _, s := range sequences() {
		back, _ := variant.Backwards(s)
		again, e := variant.Backwards(back)
		expect(t, named("Backwards", s, ""), again, e, s, api.OK)
	}
}

func TestFromThePauseAndFromTheOldBeginning(t *testing.T) {
	for _, s := range sequences() {
		pauses, _ := variant.Pauses(s)
		same(t, named("Pauses", s, ""), pauses[0], 0)
		for _, k := range pauses {
			turned, e := variant.From(s, k)
			same(t, named("error of From", s, k), e, api.OK)
			again, e := variant.From(turned, (len(s.Steps)-k)%len(s.Steps))
			expect(t, named("From", s, k), again, e, s, api.OK)
		}
	}
}

func TestJoinedSequencesPauseBetween(t *testing.T) {
	r := rand.New(rand.NewSource(197))
	joins := 0
	for range 1500 {
		a, b := randomSequence(r, true), randomSequence(r, false)
		joined, e := variant.Join(a, b)
		if e != api.OK {
			continue
		}
		joins++
		pauses, e := variant.Pauses(joined)
		same(t, "error of Pauses", e, api.OK)
		same(t, named("Pauses", joined, len(a.Steps)), slices.Contains(pauses, len(a.Steps)), true)
		// The parts of both are those of the joined one.
		first, _ := variant.Parts(a)
		second, _ := variant.Parts(b)
		parts, e := variant.Parts(joined)
		expect(t, named("Parts", joined, ""), parts, e, slices.Concat(first, second), api.OK)
	}
	if joins < 500 {
		t.Errorf("only %d sequences were joined", joins)
	}
}

// The rules of all layers about memory

// expectOwnMemory checks that no two slices of sequences share memory, by writing to all of it.
func expectOwnMemory(t *testing.T, what string, l ...api.Sequence) {
	t.Helper()
	var strokes [][]api.Stroke
	for _, s := range l {
		for _, x := range s.Steps {
			strokes = append(strokes, x.Strokes[:cap(x.Strokes)])
		}
	}
	for id, list := range strokes {
		for i := range list {
			list[i] = api.Stroke{Actuator: 1000 + id}
		}
	}
	for id, list := range strokes {
		for _, x := range list {
			same(t, what, x.Actuator, 1000+id)
		}
	}
	for id, s := range l {
		for k := range s.Steps[:cap(s.Steps)] {
			s.Steps[:cap(s.Steps)][k] = api.Step{Wait: 1000 + id}
		}
	}
	for id, s := range l {
		for _, x := range s.Steps[:cap(s.Steps)] {
			same(t, what, x.Wait, 1000+id)
		}
	}
}

func TestArgumentsAndResultsAreNotShared(t *testing.T) {
	text := "C+ 5; A+ B+; C-; A- B- 7; B+; B-; A+; C+; A- C-"
	s, kept := read(text), read(text)
	to := append(make([]int, 0, 9), 2, 0, 1)
	for range 2 {
		renamed, _ := variant.Rename(s, to)
		standard, letters, _ := variant.Standard(s)
		from, _ := variant.From(s, 4)
		unturned, _ := variant.From(s, 0)
		back, _ := variant.Backwards(s)
		merged, _ := variant.Merge(s, 1)
		joined, _ := variant.Join(s, s)
		parts, _ := variant.Parts(s)
		pauses, _ := variant.Pauses(s)
		variant.Alike(s, s)
		expect(t, "letters and pauses", letters, api.OK, []int{2, 1, 0}, api.OK)
		expect(t, "letters and pauses", pauses, api.OK, []int{0, 4, 6}, api.OK)
		clear(letters[:cap(letters)])
		clear(pauses[:cap(pauses)])
		expectOwnMemory(t, "Parts", parts...)
		for what, x := range map[string]api.Sequence{"Rename": renamed, "Standard": standard, "From": from, "From 0": unturned, "Backwards": back, "Merge": merged, "Join": joined} {
			same(t, what, len(x.Steps) > 0, true)
			expectOwnMemory(t, what, x)
		}
		expect(t, "argument", s, api.OK, kept, api.OK)
		expect(t, "argument", to[:9], api.OK, []int{2, 0, 1, 0, 0, 0, 0, 0, 0}, api.OK)
	}
}
