package minimal_test

import (
	"math"
	"math/bits"
	"math/rand"
	"slices"
	"strconv"
	"testing"

	"pneumatic/api"
	"pneumatic/implicant"
	"pneumatic/minimal"
	"pneumatic/truth"
)

var none api.Cube

func same[T comparable](t *testing.T, what string, got, expected T) {
	t.Helper()
	if got != expected {
		t.Errorf("%s: %v instead of %v", what, got, expected)
	}
}

func sameList[T comparable](t *testing.T, what string, got, expected []T) {
	t.Helper()
	if !slices.Equal(got, expected) {
		t.Errorf("%s: %v instead of %v", what, got, expected)
	}
}

// task returns the task of n variables with points that are on and free.
func task(n int, on, free uint64) implicant.Task {
	return implicant.Task{On: api.Table{N: n, Bits: on}, Free: api.Table{N: n, Bits: free}}
}

// name returns the name of a call with a task.
func name(function string, x implicant.Task) string {
	return function + " " + strconv.Itoa(x.On.N) + ":" + strconv.FormatUint(x.On.Bits, 16) + "/" + strconv.FormatUint(x.Free.Bits, 16)
}

// cubes returns the cubes with some texts.
func cubes(texts ...string) []api.Cube {
	var l []api.Cube
	for _, s := range texts {
		_, c, e := implicant.Parse(s)
		if e != api.OK {
			panic(s)
		}
		l = append(l, c)
	}
	return l
}

// allCubes returns all cubes of n variables, by Care and then by Value.
func allCubes(n int) []api.Cube {
	var l []api.Cube
	for care := range uint(1) << n {
		for value := range care + 1 {
			if value&care == value {
				l = append(l, api.Cube{Care: care, Value: value})
			}
		}
	}
	return l
}

// points returns the points of a cube.
func points(n int, c api.Cube) uint64 {
	var word uint64
	for point := range 1 << n {
		if uint(point)&c.Care == c.Value {
			word |= 1 << point
		}
	}
	return word
}

// isForm reports whether cubes are a form of a task, straight from the definition.
func isForm(x implicant.Task, form []api.Cube) bool {
	var all uint64
	for _, c := range form {
		all |= points(x.On.N, c)
	}
	return all&^(x.On.Bits|x.Free.Bits) == 0 && x.On.Bits&^all == 0
}

// literals returns the number of conditions of cubes.
func literals(form []api.Cube) int {
	n := 0
	for _, c := range form {
		n += bits.OnesCount(c.Care)
	}
	return n
}

// tasks returns tasks of n variables: all of them if there are at most 2, otherwise some.
func tasks(n int) []implicant.Task {
	var l []implicant.Task
	if n <= 2 {
		for on := range uint64(1) << (1 << n) {
			for free := range uint64(1) << (1 << n) {
				if on&free == 0 {
					l = append(l, task(n, on, free))
				}
			}
		}
		return l
	}
	last := uint64(math.MaxUint64) >> (64 - 1<<n)
	l = append(l, task(n, 0, 0), task(n, last, 0), task(n, 0, last), task(n, 1, last-1), task(n, last>>1, 0), task(n, last>>1&^1, 0), task(n, 0x6996966996696996&last, 0), task(n, last/3, last/3*2))
	r := rand.New(rand.NewSource(int64(70 + n)))
	for range 40 {
		on, free := r.Uint64()&last, r.Uint64()&last
		l = append(l, task(n, on&^free, free), task(n, on, free&^on), task(n, on, 0), task(n, (on|free)&^1, 0), task(n, on|free, r.Uint64()&last&^(on|free)))
	}
	return l
}

// problem has what the definitions say of a task.
type problem struct {
	x      implicant.Task
	primes []api.Cube
	words  []uint64
}

func problemOf(x implicant.Task) problem {
	primes, _ := implicant.Primes(x)
	p := problem{x: x, primes: primes}
	for _, c := range primes {
		p.words = append(p.words, points(x.On.N, c))
	}
	return p
}

// least goes through all choices of prime implicants.
func (p problem) least() []api.Cube {
	var best []int
	found := false
	for mask := range uint(1) << len(p.primes) {
		if found && bits.OnesCount(mask) > len(best) {
			continue
		}
		var union uint64
		var l []int
		for i, word := range p.words {
			if mask>>i&1 == 1 {
				union, l = union|word, append(l, i)
			}
		}
		if p.x.On.Bits&^union == 0 && (!found || p.isBefore(l, best)) {
			best, found = l, true
		}
	}
	return p.cubes(best)
}

// isBefore reports whether one choice is better than another one.
func (p problem) isBefore(a, b []int) bool {
	if len(a) != len(b) {
		return len(a) < len(b)
	}
	if m, n := literals(p.cubes(a)), literals(p.cubes(b)); m != n {
		return m < n
	}
	return slices.Compare(a, b) < 0
}

func (p problem) cubes(l []int) []api.Cube {
	var form []api.Cube
	for _, i := range l {
		form = append(form, p.primes[i])
	}
	return form
}

// areApart reports whether points are apart.
func (p problem) areApart(l []int) bool {
	for k, a := range l {
		if a < 0 || a >= 1<<p.x.On.N || p.x.On.Bits>>a&1 == 0 {
			return false
		}
		for _, b := range l[:k] {
			for _, word := range p.words {
				if word>>a&1 == 1 && word>>b&1 == 1 {
					return false
				}
			}
		}
	}
	return true
}

// apart goes through all lists of points, the first ones first.
func (p problem) apart() []int {
	var best, all []int
	for point := range 1 << p.x.On.N {
		if p.x.On.Bits>>point&1 == 1 {
			all = append(all, point)
		}
	}
	var visit func(k int, l []int)
	visit = func(k int, l []int) {
		if len(l) > len(best) {
			best = slices.Clone(l)
		}
		for ; k < len(all); k++ {
			if next := append(slices.Clone(l), all[k]); p.areApart(next) {
				visit(k+1, next)
			}
		}
	}
	visit(0, nil)
	return best
}

// flawed has tasks with their errors.
func flawed() map[api.Errno][]implicant.Task {
	return map[api.Errno][]implicant.Task{
		api.ErrRange:    {task(-1, 0, 0), task(7, 1, 0), task(math.MinInt, 0, 0), task(math.MaxInt, 0, 0), task(api.None, 1, 1), {On: api.Table{N: 2}, Free: api.Table{N: 7}}},
		api.ErrForm:     {task(2, 16, 0), task(0, 2, 0), task(2, 1, 16), {On: api.Table{N: 2, Bits: 16}, Free: api.Table{N: -1}}},
		api.ErrShape:    {{On: api.Table{N: 2}, Free: api.Table{N: 3}}, {On: api.Table{N: 6, Bits: 1}, Free: api.Table{N: 5, Bits: 1}}},
		api.ErrConflict: {task(0, 1, 1), task(3, 7, 12), task(6, math.MaxUint64, 1)},
	}
}

func TestErrorsOfTasks(t *testing.T) {
	for expected, l := range flawed() {
		for _, x := range l {
			for _, form := range [][]api.Cube{nil, make([]api.Cube, 300), {{Value: 1}}} {
				same(t, name("Verify", x), minimal.Verify(x, form), expected)
				spare, e := minimal.Spare(x, form)
				sameList(t, name("Spare", x), spare, nil)
				same(t, name("error of Spare", x), e, expected)
			}
			form, e := minimal.Form(x)
			sameList(t, name("Form", x), form, nil)
			same(t, name("error of Form", x), e, expected)
			p, e := minimal.Prove(x)
			same(t, name("Prove", x), len(p.Points)+len(p.Kids), 0)
			same(t, name("error of Prove", x), e, expected)
			apart, e := minimal.Apart(x)
			sameList(t, name("Apart", x), apart, nil)
			same(t, name("error of Apart", x), e, expected)
			for _, most := range []int{-1, 0, 256, 257} {
				same(t, name("Refute", x), minimal.Refute(x, most, minimal.Proof{}), expected)
				same(t, name("Refute", x), minimal.Refute(x, most, wide(api.MaxFound)), expected)
			}
		}
	}
}

// P7.1

func TestVerify(t *testing.T) {
	r := rand.New(rand.NewSource(71))
	right := 0
	for n := range api.MaxVars + 1 {
		all := allCubes(n)
		for _, x := range tasks(n) {
			primes, _ := implicant.Primes(x)
			for _, form := range [][]api.Cube{nil, primes, append(primes, none), append(primes, all[r.Intn(len(all))]), slices.Concat(primes, primes), {none}, all[:min(len(all), 256)]} {
				for range 3 {
					expected := api.ErrProof
					if isForm(x, form) {
						expected = api.OK
						right++
					}
					same(t, name("Verify", x), minimal.Verify(x, form), expected)
					if len(form) > 0 {
						i := r.Intn(len(form))
						form = slices.Concat(form[:i], form[i+1:])
					}
				}
			}
		}
	}
	if right < 500 {
		t.Errorf("only %d forms are right", right)
	}
}

// badCubes has lists of cubes of 3 variables with their errors.
func badCubes() map[api.Errno][][]api.Cube {
	return map[api.Errno][][]api.Cube{
		api.ErrMany: {make([]api.Cube, 257), make([]api.Cube, 5000), slices.Repeat([]api.Cube{{Care: 8}}, 257), slices.Repeat([]api.Cube{{Value: 1}}, 300)},
		api.ErrForm: {{{Care: 8}}, {{Value: 1}}, {none, {Care: 8, Value: 8}}, {{Care: 1, Value: 3}, none}, append(make([]api.Cube, 255), api.Cube{Care: 1 << 63}), {{Care: 7, Value: 7}, none, {Care: math.MaxUint, Value: math.MaxUint}}},
	}
}

func TestErrorsOfCubes(t *testing.T) {
	for expected, l := range badCubes() {
		for _, form := range l {
			for _, x := range []implicant.Task{task(3, 0, 0), task(3, 255, 0), task(3, 0, 255), task(3, 8, 7)} {
				same(t, name("Verify", x), minimal.Verify(x, form), expected)
				spare, e := minimal.Spare(x, form)
				sameList(t, name("Spare", x), spare, nil)
				same(t, name("error of Spare", x), e, expected)
			}
			n, e := minimal.Literals(3, form)
			same(t, "Literals", n, 0)
			same(t, "error of Literals", e, expected)
			for _, n := range []int{-1, 7, api.None, math.MinInt, math.MaxInt} {
				literals, e := minimal.Literals(n, form)
				same(t, "Literals", literals, 0)
				same(t, "error of Literals", e, api.ErrRange)
			}
		}
	}
	// As many cubes as are permitted.
	full := slices.Repeat(cubes("1--"), 256)
	same(t, "Verify", minimal.Verify(task(3, 0xaa, 0), full), api.OK)
	same(t, "Verify", minimal.Verify(task(3, 0xab, 0), full), api.ErrProof)
	same(t, "Verify", minimal.Verify(task(3, 0xa8, 0), full), api.ErrProof)
	same(t, "Verify", minimal.Verify(task(3, 0xa8, 2), full), api.OK)
	spare, e := minimal.Spare(task(3, 0xaa, 0), full)
	same(t, "number of spare cubes", len(spare), 255)
	same(t, "first spare cube", spare[0], 1)
	same(t, "error of Spare", e, api.OK)
	n, e := minimal.Literals(3, full)
	same(t, "Literals", n, 256)
	same(t, "error of Literals", e, api.OK)
}

func TestLiterals(t *testing.T) {
	r := rand.New(rand.NewSource(72))
	for n := range api.MaxVars + 1 {
		all := allCubes(n)
		for k := range 60 {
			var form []api.Cube
			for range k {
				form = append(form, all[r.Intn(len(all))])
			}
			got, e := minimal.Literals(n, form)
			same(t, "Literals", got, literals(form))
			same(t, "error of Literals", e, api.OK)
		}
	}
	for _, n := range []int{-1, 7, 64, api.None, math.MinInt, math.MaxInt} {
		got, e := minimal.Literals(n, nil)
		same(t, "Literals", got, 0)
		same(t, "error of Literals", e, api.ErrRange)
	}
}

func TestApart(t *testing.T) {
	for n := range 5 {
		for _, x := range tasks(n) {
			l, e := minimal.Apart(x)
			same(t, name("error of Apart", x), e, api.OK)
			sameList(t, name("Apart", x), l, problemOf(x).apart())
		}
	}
	for n := 5; n <= api.MaxVars; n++ {
		for _, x := range tasks(n) {
			l, e := minimal.Apart(x)
			if e == api.ErrLimit {
				sameList(t, name("Apart", x), l, nil)
				continue
			}
			same(t, name("error of Apart", x), e, api.OK)
			same(t, name("Apart", x), slices.IsSorted(l) && problemOf(x).areApart(l), true)
		}
	}
	// Tasks of more variables of which the answer is known.
	l, e := minimal.Apart(task(6, 0x6996966996696996, 0))
	if e != api.ErrLimit {
		same(t, "length of Apart", len(l), 32)
	}
	l, e = minimal.Apart(task(6, math.MaxUint64, 0))
	if e != api.ErrLimit {
		sameList(t, "Apart", l, []int{0})
	}
}

// spare leaves out cubes from the last one on.
func spare(x implicant.Task, form []api.Cube) []int {
	var l []int
	for i := len(form) - 1; i >= 0; i-- {
		if rest := slices.Concat(form[:i], form[i+1:]); isForm(x, rest) {
			form = rest
			l = append(l, i)
		}
	}
	slices.Reverse(l)
	return l
}

func TestSpare(t *testing.T) {
	r := rand.New(rand.NewSource(73))
	many := 0
	for n := range api.MaxVars + 1 {
		for _, x := range tasks(n) {
			primes, _ := implicant.Primes(x)
			var implicants []api.Cube
			for _, c := range allCubes(n) {
				if points(n, c)&^(x.On.Bits|x.Free.Bits) == 0 {
					implicants = append(implicants, c)
				}
			}
			form := slices.Clone(primes)
			for range r.Intn(9) {
				if len(implicants) > 0 {
					form = append(form, implicants[r.Intn(len(implicants))])
				}
			}
			r.Shuffle(len(form), func(i, j int) { form[i], form[j] = form[j], form[i] })
			for _, l := range [][]api.Cube{primes, form} {
				got, e := minimal.Spare(x, l)
				sameList(t, name("Spare", x), got, spare(x, l))
				same(t, name("error of Spare", x), e, api.OK)
				many += len(got)
			}
			if !isForm(x, nil) {
				got, e := minimal.Spare(x, nil)
				sameList(t, name("Spare", x), got, nil)
				same(t, name("error of Spare", x), e, api.ErrProof)
			}
			if x.On.Bits|x.Free.Bits != 1<<(1<<n)-1 && n < 6 {
				_, e := minimal.Spare(x, append(form, none))
				same(t, name("error of Spare", x), e, api.ErrProof)
			}
		}
	}
	if many < 1000 {
		t.Errorf("only %d cubes are spare", many)
	}
}

// P7.2

func TestForm(t *testing.T) {
	for n := range 5 {
		for _, x := range tasks(n) {
			form, e := minimal.Form(x)
			same(t, name("error of Form", x), e, api.OK)
			sameList(t, name("Form", x), form, problemOf(x).least())
		}
	}
	for n := 5; n <= api.MaxVars; n++ {
		for _, x := range tasks(n) {
			form, e := minimal.Form(x)
			if e == api.ErrLimit {
				sameList(t, name("Form", x), form, nil)
				continue
			}
			p := problemOf(x)
			same(t, name("error of Form", x), e, api.OK)
			same(t, name("Form", x), isForm(x, form), true)
			if len(p.primes) <= 16 {
				sameList(t, name("Form", x), form, p.least())
			}
		}
	}
}

// TestFormsOfThreeVariables looks at all tasks.
func TestFormsOfThreeVariables(t *testing.T) {
	for on := range uint64(256) {
		for free := range uint64(256) {
			if on&free != 0 {
				continue
			}
			x := task(3, on, free)
			p := problemOf(x)
			form, e := minimal.Form(x)
			same(t, name("error of Form", x), e, api.OK)
			sameList(t, name("Form", x), form, p.least())
			if on > 0 {
				testProof(t, p, len(form))
			}
		}
	}
}

// testProof checks that there is a proof that no form has fewer cubes than some.
func testProof(t *testing.T, p problem, number int) {
	t.Helper()
	proof, e := minimal.Prove(p.x)
	if e == api.ErrLimit && p.x.On.N > 4 {
		same(t, name("Prove", p.x), len(proof.Points)+len(proof.Kids), 0)
		return
	}
	same(t, name("error of Prove", p.x), e, api.OK)
	same(t, name("Prove", p.x), p.proves(proof, 0, number-1), true)
	same(t, name("size of Prove", p.x), sizeOf(proof) <= api.MaxFound, true)
	same(t, name("Refute", p.x), minimal.Refute(p.x, number-1, proof), api.OK)
	same(t, name("Refute of more", p.x), minimal.Refute(p.x, number, proof), api.ErrProof)
}

func TestProve(t *testing.T) {
	for n := range api.MaxVars + 1 {
		for _, x := range tasks(n) {
			if x.On.Bits == 0 {
				proof, e := minimal.Prove(x)
				same(t, name("Prove", x), len(proof.Points)+len(proof.Kids), 0)
				same(t, name("error of Prove", x), e, api.ErrEmpty)
				continue
			}
			if form, e := minimal.Form(x); e == api.OK {
				testProof(t, problemOf(x), len(form))
			}
		}
	}
}

// TestManyPrimeImplicants looks at functions of six variables that depend on the number of true ones alone: some searches are too long.
func TestManyPrimeImplicants(t *testing.T) {
	for counts := 0; counts < 128; counts += 3 {
		var on uint64
		for point := range 64 {
			on |= uint64(counts>>bits.OnesCount(uint(point))&1) << point
		}
		x := task(6, on, 0)
		p := problemOf(x)
		form, e := minimal.Form(x)
		if e == api.ErrLimit {
			sameList(t, name("Form", x), form, nil)
			_, e = minimal.Prove(x)
			same(t, name("error of Prove", x), e, api.ErrLimit)
			continue
		}
		same(t, name("error of Form", x), e, api.OK)
		same(t, name("Form", x), isForm(x, form), true)
		if on > 0 {
			testProof(t, p, len(form))
		}
	}
}

// P7.3

func TestNoFormIsLess(t *testing.T) {
	r := rand.New(rand.NewSource(74))
	for n := range 5 {
		all := allCubes(n)
		for _, x := range tasks(n) {
			least, _ := minimal.Form(x)
			same(t, name("Verify of Form", x), minimal.Verify(x, least), api.OK)
			number, _ := minimal.Literals(n, least)
			try := func(form []api.Cube) {
				if minimal.Verify(x, form) == api.OK && (len(form) < len(least) || len(form) == len(least) && literals(form) < number) {
					t.Errorf("%s: %v is less than %v", name("Form", x), form, least)
				}
			}
			if n <= 1 {
				for mask := range 1 << len(all) {
					var form []api.Cube
					for i, c := range all {
						if mask>>i&1 == 1 {
							form = append(form, c)
						}
					}
					try(form)
				}
			}
			for range 20 {
				form := slices.Clone(least)
				for range r.Intn(3) {
					if len(form) > 0 {
						form = slices.Delete(form, 0, 1)
					}
					form = append(form, all[r.Intn(len(all))])
				}
				try(form)
			}
			for i, c := range least {
				try(slices.Concat(least[:i], least[i+1:]))
				for v := range n {
					wider := api.Cube{Care: c.Care &^ (1 << v), Value: c.Value &^ (1 << v)}
					try(slices.Concat(least[:i], []api.Cube{wider}, least[i+1:]))
				}
			}
		}
	}
}

func TestLeastFormsHaveNoSpareCubes(t *testing.T) {
	for n := range api.MaxVars + 1 {
		for _, x := range tasks(n) {
			form, e := minimal.Form(x)
			if e == api.ErrLimit {
				continue
			}
			l, e := minimal.Spare(x, form)
			sameList(t, name("Spare of Form", x), l, nil)
			same(t, name("error of Spare", x), e, api.OK)
			if apart, e := minimal.Apart(x); e == api.OK && len(apart) > len(form) {
				t.Errorf("%s: %v are more than the cubes %v", name("Apart", x), apart, form)
			}
		}
	}
}

func TestRenamedTasksHaveFormsOfTheSameSize(t *testing.T) {
	r := rand.New(rand.NewSource(75))
	for n := range api.MaxVars + 1 {
		for _, x := range tasks(n) {
			order := r.Perm(n)
			on, _ := truth.Rename(x.On, order)
			free, _ := truth.Rename(x.Free, order)
			first, e := minimal.Form(x)
			second, f := minimal.Form(implicant.Task{On: on, Free: free})
			if e == api.OK && f == api.OK {
				same(t, name("cubes when renamed", x), len(second), len(first))
				same(t, name("literals when renamed", x), literals(second), literals(first))
			}
		}
	}
}

func TestExamplesOfTheDocument(t *testing.T) {
	for i, c := range []struct {
		on    string
		form  []api.Cube
		apart []int
	}{{"00010111", cubes("11-", "1-1", "-11"), []int{3, 5, 6}}, {"01111110", cubes("10-", "0-1", "-10"), []int{1, 2, 4}}} {
		what := "of example " + strconv.Itoa(i+1)
		on, _ := truth.Parse(c.on)
		x := implicant.Task{On: on, Free: api.Table{N: 3}}
		form, e := minimal.Form(x)
		sameList(t, "Form "+what, form, c.form)
		same(t, "error of Form "+what, e, api.OK)
		n, _ := minimal.Literals(3, form)
		same(t, "Literals "+what, n, 6)
		apart, e := minimal.Apart(x)
		sameList(t, "Apart "+what, apart, c.apart)
		same(t, "error of Apart "+what, e, api.OK)
		same(t, "Refute "+what, minimal.Refute(x, 2, minimal.Proof{Points: c.apart}), api.OK)
		same(t, "Refute "+what, minimal.Refute(x, 3, minimal.Proof{Points: c.apart}), api.ErrProof)
	}
	ring, _ := truth.Parse("01111110")
	primes, _ := implicant.Primes(implicant.Task{On: ring, Free: api.Table{N: 3}})
	same(t, "number of prime implicants", len(primes), 6)
}
