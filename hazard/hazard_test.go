package hazard_test

import (
	"math"
	"math/bits"
	"math/rand"
	"slices"
	"strconv"
	"testing"

	"pneumatic/api"
	"pneumatic/hazard"
	"pneumatic/implicant"
	"pneumatic/truth"
)

var none api.Cube

func same[T comparable](t *testing.T, what string, got, expected T) {
	t.Helper()
	if got != expected {
		t.Errorf("%s: %v instead of %v", what, got, expected)
	}
}

func sameList[T comparable](t *testing.T, what string, got, expected []T) {
	t.Helper()
	if !slices.Equal(got, expected) {
		t.Errorf("%s: %v instead of %v", what, got, expected)
	}
}

// name returns the name of a call with a form.
func name(function string, n int, form []api.Cube) string {
	function += " " + strconv.Itoa(n) + ":"
	for _, c := range form {
		function += " " + strconv.FormatUint(uint64(c.Care), 2) + "/" + strconv.FormatUint(uint64(c.Value), 2)
	}
	return function
}

// cubes returns the cubes with some texts.
func cubes(texts ...string) []api.Cube {
	var l []api.Cube
	for _, s := range texts {
		_, c, e := implicant.Parse(s)
		if e != api.OK {
			panic(s)
		}
		l = append(l, c)
	}
	return l
}

// allCubes returns all cubes of n variables, by Care and then by Value.
func allCubes(n int) []api.Cube {
	var l []api.Cube
	for care := range uint(1) << n {
		for value := range care + 1 {
			if value&care == value {
				l = append(l, api.Cube{Care: care, Value: value})
			}
		}
	}
	return l
}

// forms returns forms of n variables: the empty one, all of at most two cubes if there are few variables, and many others.
func forms(n int) [][]api.Cube {
	l := [][]api.Cube{nil}
	all := allCubes(n)
	r := rand.New(rand.NewSource(int64(80 + n)))
	if n <= 2 {
		for _, a := range all {
			l = append(l, []api.Cube{a})
			for _, b := range all {
				l = append(l, []api.Cube{a, b})
			}
		}
	}
	for k := range 150 {
		var form []api.Cube
		for range 1 + k%9 {
			form = append(form, all[r.Intn(len(all))])
		}
		l = append(l, form)
	}
	// Prime implicants that are left out make hazards.
	for range 40 {
		last := uint64(math.MaxUint64) >> (64 - 1<<n)
		on := (r.Uint64() | r.Uint64()) & last
		primes, _ := implicant.Primes(implicant.Task{On: api.Table{N: n, Bits: on}, Free: api.Table{N: n}})
		r.Shuffle(len(primes), func(i, j int) { primes[i], primes[j] = primes[j], primes[i] })
		l = append(l, primes, primes[:len(primes)*2/3])
	}
	return l
}

// covers reports whether a point is in a cube.
func covers(c api.Cube, point int) bool { return uint(point)&c.Care == c.Value }

// isTrue reports whether a form is true at a point.
func isTrue(form []api.Cube, point int) bool {
	return slices.ContainsFunc(form, func(c api.Cube) bool { return covers(c, point) })
}

// change returns what a form has, straight from the definition.
func change(n int, form []api.Cube, from, to int) int {
	high, low := false, true
	for _, c := range form {
		isLow, isHigh := false, true
		for i := range n {
			if c.Care>>i&1 == 0 {
				continue
			}
			known := from>>i&1 == to>>i&1
			asked := int(c.Value >> i & 1)
			isLow = isLow || known && asked != from>>i&1
			isHigh = isHigh && known && asked == from>>i&1
		}
		high, low = high || isHigh, low && isLow
	}
	switch {
	case high:
		return hazard.High
	case low:
		return hazard.Low
	}
	return hazard.Unknown
}

// pairs returns the static hazards, straight from the definition.
func pairs(n int, form []api.Cube) [][2]int {
	var l [][2]int
	for a := range 1 << n {
		for b := a + 1; b < 1<<n; b++ {
			if bits.OnesCount(uint(a^b)) != 1 || !isTrue(form, a) || !isTrue(form, b) {
				continue
			}
			if !inOne(form, [2]int{a, b}) {
				l = append(l, [2]int{a, b})
			}
		}
	}
	return l
}

// inOne reports whether two points are in a cube together.
func inOne(form []api.Cube, pair [2]int) bool {
	return slices.ContainsFunc(form, func(c api.Cube) bool { return covers(c, pair[0]) && covers(c, pair[1]) })
}

// way returns all points at which the variables that do not change are as they are.
func way(n, from, to int) []int {
	var l []int
	for point := range 1 << n {
		if (point^from)&^(from^to) == 0 {
			l = append(l, point)
		}
	}
	return l
}

// noticed reports whether a change can be noticed though the function has one value, straight from the definition.
func noticed(n int, form []api.Cube, from, to int) bool {
	for _, point := range way(n, from, to) {
		if isTrue(form, point) != isTrue(form, from) {
			return false
		}
	}
	return change(n, form, from, to) == hazard.Unknown
}

// table returns the function of a form.
func table(n int, form []api.Cube) api.Table {
	t := api.Table{N: n}
	for point := range 1 << n {
		if isTrue(form, point) {
			t.Bits |= 1 << point
		}
	}
	return t
}

func primesOf(t api.Table) []api.Cube {
	primes, _ := implicant.Primes(implicant.Task{On: t, Free: api.Table{N: t.N}})
	return primes
}

// P8.1

// flaw is a form with its error.
type flaw struct {
	n    int
	form []api.Cube
	e    api.Errno
}

func flawed() []flaw {
	bad := api.Cube{Care: 1 << 9}
	var l []flaw
	for _, n := range []int{-1, 7, 8, 64, api.None, math.MinInt, math.MaxInt} {
		for _, form := range [][]api.Cube{nil, {none}, {bad}, make([]api.Cube, 300)} {
			l = append(l, flaw{n, form, api.ErrRange})
		}
	}
	for n := range api.MaxVars + 1 {
		last := uint(1) << n
		l = append(l, flaw{n, make([]api.Cube, 257), api.ErrMany}, flaw{n, slices.Repeat([]api.Cube{bad}, 257), api.ErrMany}, flaw{n, make([]api.Cube, 5000), api.ErrMany})
		for _, c := range []api.Cube{bad, {Care: last}, {Value: last}, {Care: last, Value: last}, {Care: math.MaxUint}, {Value: 1 << 63}, {Care: last - 1, Value: last}} {
			l = append(l, flaw{n, []api.Cube{c}, api.ErrForm}, flaw{n, []api.Cube{none, none, c}, api.ErrForm}, flaw{n, []api.Cube{c, none}, api.ErrForm}, flaw{n, append(make([]api.Cube, 255), c), api.ErrForm})
		}
	}
	return l
}

func TestErrorsOfForms(t *testing.T) {
	for _, f := range flawed() {
		same(t, "Check", hazard.Check(f.n, f.form), f.e)
		x, e := hazard.Table(f.n, f.form)
		same(t, "Table", x, api.Table{})
		same(t, "error of Table", e, f.e)
		for _, c := range []hazard.Change{{}, {From: -1}, {To: 1 << 30}} {
			value, e := hazard.Between(f.n, f.form, c)
			same(t, "Between", value, 0)
			same(t, "error of Between", e, f.e)
			is, e := hazard.Logic(f.n, f.form, c)
			same(t, "Logic", is, false)
			same(t, "error of Logic", e, f.e)
		}
		l, e := hazard.Hazards(f.n, f.form)
		sameList(t, "Hazards", l, nil)
		same(t, "error of Hazards", e, f.e)
		added, e := hazard.Mend(f.n, f.form)
		sameList(t, "Mend", added, nil)
		same(t, "error of Mend", e, f.e)
	}
	for n := range api.MaxVars + 1 {
		same(t, "Check of 256 cubes", hazard.Check(n, make([]api.Cube, 256)), api.OK)
		same(t, "Check of all cubes", hazard.Check(n, allCubes(n)[:min(len(allCubes(n)), 256)]), api.OK)
		same(t, "Check of none", hazard.Check(n, nil), api.OK)
	}
}

func TestErrorsOfChanges(t *testing.T) {
	for n := range api.MaxVars + 1 {
		for _, form := range [][]api.Cube{nil, {none}, allCubes(n)[:min(len(allCubes(n)), 256)]} {
			for _, point := range []int{-1, 1 << n, 64, 1 << 30, api.None, math.MinInt, math.MaxInt} {
				for _, c := range []hazard.Change{{From: point}, {To: point}, {From: point, To: point}, {From: 1<<n - 1, To: point}} {
					value, e := hazard.Between(n, form, c)
					same(t, "Between", value, 0)
					same(t, "error of Between", e, api.ErrRange)
					is, e := hazard.Logic(n, form, c)
					same(t, "Logic", is, false)
					same(t, "error of Logic", e, api.ErrRange)
				}
			}
		}
	}
}

func TestTable(t *testing.T) {
	for n := range api.MaxVars + 1 {
		for _, form := range forms(n) {
			same(t, name("Check", n, form), hazard.Check(n, form), api.OK)
			x, e := hazard.Table(n, form)
			same(t, name("Table", n, form), x, table(n, form))
			same(t, name("error of Table", n, form), e, api.OK)
		}
	}
}

func TestBetweenAndLogic(t *testing.T) {
	r := rand.New(rand.NewSource(81))
	values, notices := map[int]int{}, 0
	for n := range api.MaxVars + 1 {
		for _, form := range forms(n) {
			for from := range 1 << n {
				for to := range 1 << n {
					if n > 2 && r.Intn(1<<(2*n-5)) > 0 {
						continue
					}
					c := hazard.Change{From: from, To: to}
					value, e := hazard.Between(n, form, c)
					same(t, name("Between", n, form), value, change(n, form, from, to))
					same(t, name("error of Between", n, form), e, api.OK)
					is, e := hazard.Logic(n, form, c)
					same(t, name("Logic", n, form), is, noticed(n, form, from, to))
					same(t, name("error of Logic", n, form), e, api.OK)
					values[value]++
					if is {
						notices++
					}
				}
			}
		}
	}
	for _, value := range []int{hazard.Low, hazard.High, hazard.Unknown} {
		if values[value] < 1000 {
			t.Errorf("only %d changes have the value %d", values[value], value)
		}
	}
	if notices < 100 {
		t.Errorf("only %d changes are noticed", notices)
	}
}

func TestConstants(t *testing.T) {
	sameList(t, "constants", []int{hazard.Low, hazard.High, hazard.Unknown}, []int{0, 1, 2})
}

// P8.2

func TestHazards(t *testing.T) {
	found := 0
	for n := range api.MaxVars + 1 {
		for _, form := range forms(n) {
			l, e := hazard.Hazards(n, form)
			sameList(t, name("Hazards", n, form), l, pairs(n, form))
			same(t, name("error of Hazards", n, form), e, api.OK)
			found += len(l)
		}
	}
	if found < 1000 {
		t.Errorf("only %d hazards", found)
	}
}

// mended returns the cubes that have to be added, straight from the definition.
func mended(n int, form []api.Cube) []api.Cube {
	var added []api.Cube
	for _, pair := range pairs(n, form) {
		if inOne(added, pair) {
			continue
		}
		for _, c := range primesOf(table(n, form)) {
			if covers(c, pair[0]) && covers(c, pair[1]) {
				added = append(added, c)
				break
			}
		}
	}
	return added
}

func TestMend(t *testing.T) {
	most := 0
	for n := range api.MaxVars + 1 {
		for _, form := range forms(n) {
			added, e := hazard.Mend(n, form)
			sameList(t, name("Mend", n, form), added, mended(n, form))
			same(t, name("error of Mend", n, form), e, api.OK)
			most = max(most, len(added))
		}
	}
	if most < 5 {
		t.Errorf("no form needs more than %d cubes", most)
	}
}

// tables returns functions of n variables: all of them if there are few.
func tables(n int) []api.Table {
	var l []api.Table
	if n <= 3 {
		for word := range uint64(1) << (1 << n) {
			l = append(l, api.Table{N: n, Bits: word})
		}
		return l
	}
	last := uint64(math.MaxUint64) >> (64 - 1<<n)
	for _, word := range []uint64{0, last, 1, last >> 1, last >> 1 &^ 1, 0x6996966996696996, 0x7ee8e880e8808000} {
		l = append(l, api.Table{N: n, Bits: word & last})
	}
	r := rand.New(rand.NewSource(int64(82 + n)))
	for range 40 {
		a, b, c := r.Uint64(), r.Uint64(), r.Uint64()
		for _, word := range []uint64{a, a | b, a | b | c, a & b} {
			l = append(l, api.Table{N: n, Bits: word & last})
		}
	}
	return l
}

// best goes through all choices of prime implicants.
func best(x api.Table) []api.Cube {
	primes := primesOf(x)
	var best []api.Cube
	var indices []int
	found := false
	for mask := range uint(1) << len(primes) {
		if found && bits.OnesCount(mask) > len(best) {
			continue
		}
		var form []api.Cube
		var l []int
		for i, c := range primes {
			if mask>>i&1 == 1 {
				form, l = append(form, c), append(l, i)
			}
		}
		if table(x.N, form) != x || len(pairs(x.N, form)) > 0 {
			continue
		}
		m, k := literals(form), literals(best)
		if !found || len(form) < len(best) || m < k || m == k && slices.Compare(l, indices) < 0 {
			best, indices, found = form, l, true
		}
	}
	return best
}

func literals(form []api.Cube) int {
	n := 0
	for _, c := range form {
		n += bits.OnesCount(c.Care)
	}
	return n
}

func TestForm(t *testing.T) {
	for n := range api.MaxVars + 1 {
		for _, x := range tables(n) {
			form, e := hazard.Form(x)
			if n > 4 && e == api.ErrLimit {
				sameList(t, "Form", form, nil)
				continue
			}
			what := name("Form of "+strconv.FormatUint(x.Bits, 16), n, form)
			same(t, "error of "+what, e, api.OK)
			same(t, "function of "+what, table(n, form), x)
			sameList(t, "hazards of "+what, pairs(n, form), nil)
			if len(primesOf(x)) <= 10 {
				sameList(t, what, form, best(x))
			}
		}
	}
	for _, c := range []struct {
		x api.Table
		e api.Errno
	}{{api.Table{N: -1}, api.ErrRange}, {api.Table{N: 7, Bits: 1}, api.ErrRange}, {api.Table{N: math.MinInt}, api.ErrRange}, {api.Table{N: math.MaxInt}, api.ErrRange}, {api.Table{N: 2, Bits: 16}, api.ErrForm}, {api.Table{N: 0, Bits: 2}, api.ErrForm}, {api.Table{N: 5, Bits: 1 << 63}, api.ErrForm}} {
		form, e := hazard.Form(c.x)
		sameList(t, "Form", form, nil)
		same(t, "error of Form", e, c.e)
	}
}

// TestFormChoosesAmongSeveral looks for functions of four variables whose prime implicants are not all needed.
func TestFormChoosesAmongSeveral(t *testing.T) {
	r := rand.New(rand.NewSource(83))
	found := 0
	for range 4000 {
		x := api.Table{N: 4, Bits: uint64(r.Intn(1 << 16))}
		form, e := hazard.Form(x)
		same(t, "error of Form", e, api.OK)
		if len(form) < len(primesOf(x)) {
			found++
			sameList(t, name("Form of "+strconv.FormatUint(x.Bits, 16), 4, form), form, best(x))
		}
	}
	if found < 50 {
		t.Errorf("only %d functions do not need all of their prime implicants", found)
	}
}

// TestFormHasTheFewestLiterals looks at a function for which another form has as many cubes and is the first one, but has more literals.
func TestFormHasTheFewestLiterals(t *testing.T) {
	x := api.Table{N: 5, Bits: 0xf7ff4f7c}
	form, e := hazard.Form(x)
	same(t, "error of Form", e, api.OK)
	sameList(t, name("Form", 5, form), form, best(x))
	same(t, "number of cubes", len(form), 11)
	same(t, "number of literals", literals(form), 28)
}

// TestManyPrimeImplicants looks at functions of six variables that depend on the number of true ones alone: some searches are too long.
func TestManyPrimeImplicants(t *testing.T) {
	for counts := 0; counts < 128; counts += 3 {
		x := api.Table{N: 6}
		for point := range 64 {
			x.Bits |= uint64(counts>>bits.OnesCount(uint(point))&1) << point
		}
		form, e := hazard.Form(x)
		if e == api.ErrLimit {
			sameList(t, "Form", form, nil)
			continue
		}
		same(t, "error of Form", e, api.OK)
		same(t, "function of Form", table(6, form), x)
		sameList(t, "hazards of Form", pairs(6, form), nil)
	}
}

// P8.3

func TestPointsHaveTheValueOfTheFunction(t *testing.T) {
	for n := range api.MaxVars + 1 {
		for _, form := range forms(n) {
			x, _ := hazard.Table(n, form)
			for point := range 1 << n {
				value, _ := hazard.Between(n, form, hazard.Change{From: point, To: point})
				is, _ := truth.Value(x, point)
				same(t, name("Between a point and itself", n, form), value == hazard.High, is)
				same(t, name("Between a point and itself", n, form), value == hazard.Unknown, false)
			}
		}
	}
}

func TestWhatIsKnownIsTrueAllTheWay(t *testing.T) {
	r := rand.New(rand.NewSource(84))
	for n := range api.MaxVars + 1 {
		for _, form := range forms(n) {
			x, _ := hazard.Table(n, form)
			for range 40 {
				c := hazard.Change{From: r.Intn(1 << n), To: r.Intn(1 << n)}
				value, _ := hazard.Between(n, form, c)
				if value == hazard.Unknown {
					continue
				}
				for _, point := range way(n, c.From, c.To) {
					is, _ := truth.Value(x, point)
					same(t, name("value on the way", n, form), is, value == hazard.High)
				}
			}
		}
	}
}

func TestMendedFormsHaveNoHazards(t *testing.T) {
	for n := range api.MaxVars + 1 {
		for _, form := range forms(n) {
			added, _ := hazard.Mend(n, form)
			before, _ := hazard.Table(n, form)
			after, e := hazard.Table(n, slices.Concat(form, added))
			same(t, name("function with Mend", n, form), after, before)
			same(t, name("error of Table", n, form), e, api.OK)
			l, e := hazard.Hazards(n, slices.Concat(form, added))
			sameList(t, name("Hazards with Mend", n, form), l, nil)
			same(t, name("error of Hazards", n, form), e, api.OK)
			l, e = hazard.Hazards(n, primesOf(before))
			sameList(t, name("Hazards of all prime implicants", n, form), l, nil)
			same(t, name("error of Hazards", n, form), e, api.OK)
		}
	}
}

func TestChangesOfOneVariableAreNoticedByHazards(t *testing.T) {
	for n := range api.MaxVars + 1 {
		for _, form := range forms(n) {
			l, _ := hazard.Hazards(n, form)
			for point := range 1 << n {
				for i := range n {
					other := point ^ 1<<i
					is, _ := hazard.Logic(n, form, hazard.Change{From: point, To: other})
					same(t, name("Logic", n, form), is, slices.Contains(l, [2]int{min(point, other), max(point, other)}))
				}
			}
		}
	}
}

func TestExamplesOfTheDocument(t *testing.T) {
	form := cubes("11-", "0-1")
	l, e := hazard.Hazards(3, form)
	sameList(t, "Hazards", l, [][2]int{{6, 7}})
	same(t, "error of Hazards", e, api.OK)
	for _, c := range []struct {
		change hazard.Change
		value  int
		logic  bool
	}{{hazard.Change{From: 6, To: 7}, hazard.Unknown, true}, {hazard.Change{From: 7, To: 6}, hazard.Unknown, true}, {hazard.Change{From: 0, To: 1}, hazard.Low, false}, {hazard.Change{From: 1, To: 3}, hazard.Unknown, false}} {
		value, e := hazard.Between(3, form, c.change)
		same(t, "Between", value, c.value)
		same(t, "error of Between", e, api.OK)
		is, e := hazard.Logic(3, form, c.change)
		same(t, "Logic", is, c.logic)
		same(t, "error of Logic", e, api.OK)
	}
	added, e := hazard.Mend(3, form)
	sameList(t, "Mend", added, cubes("-11"))
	same(t, "error of Mend", e, api.OK)
}

// P1

func TestArgumentsOfAnyForm(t *testing.T) {
	r := rand.New(rand.NewSource(85))
	for range 5000 {
		n := r.Intn(9) - 1
		var form []api.Cube
		for range r.Intn(5) {
			form = append(form, api.Cube{Care: uint(r.Intn(130)), Value: uint(r.Intn(130) & r.Intn(130))})
		}
		before := slices.Clone(form)
		c := hazard.Change{From: r.Intn(70) - 2, To: r.Intn(70) - 2}
		f := hazard.Check(n, form)
		_, e := hazard.Table(n, form)
		same(t, "error of Table", e, f)
		_, e = hazard.Hazards(n, form)
		same(t, "error of Hazards", e, f)
		_, e = hazard.Mend(n, form)
		same(t, "error of Mend", e, f)
		if f == api.OK && (c.From < 0 || c.To < 0 || c.From >= 1<<n || c.To >= 1<<n) {
			f = api.ErrRange
		}
		_, e = hazard.Between(n, form, c)
		same(t, "error of Between", e, f)
		_, e = hazard.Logic(n, form, c)
		same(t, "error of Logic", e, f)
		sameList(t, "argument", form, before)
		x := api.Table{N: n, Bits: r.Uint64() >> r.Intn(64)}
		_, e = hazard.Form(x)
		if e != api.ErrLimit || n <= 4 {
			same(t, "error of Form", e, truth.Check(x))
		}
	}
}
