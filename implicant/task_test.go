package implicant_test

import (
	"math"
	"math/rand"
	"strconv"
	"testing"

	"pneumatic/api"
	"pneumatic/implicant"
	"pneumatic/truth"
)

// task returns the task of n variables with points that are on and free.
func task(n int, on, free uint64) implicant.Task {
	return implicant.Task{On: api.Table{N: n, Bits: on}, Free: api.Table{N: n, Bits: free}}
}

// nameOf returns the name of a call with a task.
func nameOf(function string, x implicant.Task) string {
	return function + " " + strconv.Itoa(x.On.N) + ":" + strconv.FormatUint(x.On.Bits, 16) + "/" + strconv.FormatUint(x.Free.Bits, 16)
}

// flawedTask is a task with its error.
type flawedTask struct {
	x implicant.Task
	e api.Errno
}

func flawedTasks() []flawedTask {
	table := func(n int, bits uint64) api.Table { return api.Table{N: n, Bits: bits} }
	of := func(on, free api.Table, e api.Errno) flawedTask {
		return flawedTask{implicant.Task{On: on, Free: free}, e}
	}
	return []flawedTask{
		of(table(-1, 0), table(2, 0), api.ErrRange), of(table(7, 1), table(7, 1), api.ErrRange), of(table(2, 0), table(7, 0), api.ErrRange), of(table(2, 3), table(-1, 3), api.ErrRange), of(table(math.MinInt, 0), table(0, 2), api.ErrRange), of(table(2, 1), table(math.MaxInt, 0), api.ErrRange), of(table(64, 0), table(64, 0), api.ErrRange), of(table(api.None, 0), table(2, 0), api.ErrRange),
		of(table(2, 16), table(-1, 0), api.ErrForm), of(table(-1, 0), table(2, 16), api.ErrRange), of(table(2, 16), table(2, 16), api.ErrForm), of(table(2, 1), table(2, 16), api.ErrForm), of(table(2, 1), table(3, 256), api.ErrForm), of(table(0, 2), table(0, 0), api.ErrForm), of(table(5, 1<<63), table(6, 0), api.ErrForm), of(table(0, 0), table(0, 3), api.ErrForm),
		of(table(2, 1), table(3, 1), api.ErrShape), of(table(3, 0), table(2, 0), api.ErrShape), of(table(0, 1), table(6, 1), api.ErrShape), of(table(6, math.MaxUint64), table(5, math.MaxUint32), api.ErrShape),
		of(table(0, 1), table(0, 1), api.ErrConflict), of(table(2, 7), table(2, 12), api.ErrConflict), of(table(6, math.MaxUint64), table(6, 1<<63), api.ErrConflict), of(table(6, 1), table(6, math.MaxUint64), api.ErrConflict), of(table(3, 0x80), table(3, 0x80), api.ErrConflict),
	}
}

// P6.2

func TestCheckTask(t *testing.T) {
	for _, f := range flawedTasks() {
		same(t, nameOf("CheckTask", f.x), implicant.CheckTask(f.x), f.e)
		for _, c := range []api.Cube{none, {Care: 1 << 9}, {Value: 1}} {
			ok, e := implicant.Implies(f.x, c)
			same(t, nameOf("Implies", f.x), ok, false)
			same(t, nameOf("error of Implies", f.x), e, f.e)
		}
		primes, e := implicant.Primes(f.x)
		same(t, nameOf("length of Primes", f.x), len(primes), 0)
		same(t, nameOf("error of Primes", f.x), e, f.e)
		essential, e := implicant.Essential(f.x)
		same(t, nameOf("length of Essential", f.x), len(essential), 0)
		same(t, nameOf("error of Essential", f.x), e, f.e)
	}
	for n := range 3 {
		for on := range uint64(1) << (1 << n) {
			for free := range uint64(1) << (1 << n) {
				f := api.OK
				if on&free != 0 {
					f = api.ErrConflict
				}
				same(t, nameOf("CheckTask", task(n, on, free)), implicant.CheckTask(task(n, on, free)), f)
			}
		}
	}
}

// tasks returns tasks of n variables: all of them if there are at most 3, otherwise some.
func tasks(n int) []implicant.Task {
	var l []implicant.Task
	if n <= 3 {
		for on := range uint64(1) << (1 << n) {
			for free := range uint64(1) << (1 << n) {
				if on&free == 0 {
					l = append(l, task(n, on, free))
				}
			}
		}
		return l
	}
	last := uint64(math.MaxUint64) >> (64 - 1<<n)
	l = append(l, task(n, 0, 0), task(n, last, 0), task(n, 0, last), task(n, 1, last-1), task(n, last-1, 1), task(n, last>>1, 0), task(n, last/3, 0), task(n, last/3, last/3*2), task(n, 0x6996966996696996&last, 0), task(n, last&^1&^(last>>1+1), 0))
	r := rand.New(rand.NewSource(int64(62 + n)))
	for range 60 {
		on, free := r.Uint64()&last, r.Uint64()&last
		for range r.Intn(4) {
			on |= r.Uint64() & last
		}
		for range r.Intn(3) {
			free &= r.Uint64()
		}
		for range r.Intn(3) {
			on &= r.Uint64()
		}
		l = append(l, task(n, on&^free, free), task(n, on, free&^on), task(n, on, 0))
	}
	// Functions of large cubes have many prime implicants that overlap.
	all := cubes(n)
	for range 40 {
		var on, free uint64
		for range 2 + r.Intn(8) {
			c, keep := all[r.Intn(len(all))], uint(r.Uint64())
			on |= points(n, api.Cube{Care: c.Care & keep, Value: c.Value & keep})
			free |= points(n, all[r.Intn(len(all))])
		}
		l = append(l, task(n, on, free&^on))
	}
	return l
}

// solution has what the definitions say of a task.
type solution struct {
	implicants, primes []api.Cube
	essential          []int
}

// solve finds what the definitions say, by the points of all cubes, which are given.
func solve(x implicant.Task, all []api.Cube, words []uint64) solution {
	var s solution
	var of []uint64
	for i, c := range all {
		if words[i]&^(x.On.Bits|x.Free.Bits) == 0 {
			s.implicants, of = append(s.implicants, c), append(of, words[i])
		}
	}
	var primes []uint64
	for i, c := range s.implicants {
		prime := of[i]&x.On.Bits != 0
		for j := range s.implicants {
			prime = prime && (i == j || of[i]&^of[j] != 0)
		}
		if prime {
			s.primes, primes = append(s.primes, c), append(primes, of[i])
		}
	}
	for i := range primes {
		alone := primes[i] & x.On.Bits
		for j, word := range primes {
			if i != j {
				alone &^= word
			}
		}
		if alone != 0 {
			s.essential = append(s.essential, i)
		}
	}
	return s
}

func TestPrimes(t *testing.T) {
	most := 0
	for n := range api.MaxVars + 1 {
		all := cubes(n)
		var words []uint64
		for _, c := range all {
			words = append(words, points(n, c))
		}
		for k, x := range tasks(n) {
			s := solve(x, all, words)
			primes, e := implicant.Primes(x)
			sameList(t, nameOf("Primes", x), primes, s.primes)
			same(t, nameOf("error of Primes", x), e, api.OK)
			essential, e := implicant.Essential(x)
			sameList(t, nameOf("Essential", x), essential, s.essential)
			same(t, nameOf("error of Essential", x), e, api.OK)
			most = max(most, len(primes))
			if n == 3 && k%7 != 0 {
				continue
			}
			for i, c := range all {
				ok, e := implicant.Implies(x, c)
				same(t, nameOf(name("Implies", c), x), ok, words[i]&^(x.On.Bits|x.Free.Bits) == 0)
				same(t, nameOf("error of Implies", x), e, api.OK)
			}
		}
	}
	if most < 30 {
		t.Errorf("no task has more than %d prime implicants", most)
	}
}

func TestErrorsOfImplies(t *testing.T) {
	for _, f := range flawed() {
		if f.e == api.ErrRange {
			continue
		}
		for _, x := range []implicant.Task{task(f.n, 0, 0), task(f.n, 1, 0), task(f.n, 0, 1)} {
			ok, e := implicant.Implies(x, f.c)
			same(t, nameOf(name("Implies", f.c), x), ok, false)
			same(t, nameOf(name("error of Implies", f.c), x), e, f.e)
		}
	}
}

// P6.3

func TestMeetHasThePointsOfBoth(t *testing.T) {
	r := rand.New(rand.NewSource(69))
	for n := range api.MaxVars + 1 {
		l := cubes(n)
		for range 500 {
			a, b := l[r.Intn(len(l))], l[r.Intn(len(l))]
			first, _ := implicant.Table(n, a)
			second, _ := implicant.Table(n, b)
			both, _ := truth.And(first, second)
			c, ok, _ := implicant.Meet(n, a, b)
			same(t, name("Meet", a, b), ok, both.Bits != 0)
			if ok {
				table, _ := implicant.Table(n, c)
				same(t, name("Meet", a, b), table, both)
				expected, _ := cubeOf(n, both.Bits)
				same(t, name("Meet", a, b), c, expected)
			}
		}
	}
}

func TestConsensusOfImplicantsIsOne(t *testing.T) {
	found := 0
	for n := range api.MaxVars + 1 {
		for k, x := range tasks(n) {
			if n >= 3 && k%17 != 0 {
				continue
			}
			primes, _ := implicant.Primes(x)
			var implicants []api.Cube
			for _, c := range cubes(n) {
				if ok, _ := implicant.Implies(x, c); ok && (n <= 3 || len(implicants) < 80) {
					implicants = append(implicants, c)
				}
			}
			for _, a := range append(implicants, primes...) {
				for _, b := range append(implicants, primes...) {
					c, ok, _ := implicant.Consensus(n, a, b)
					if !ok {
						continue
					}
					found++
					implies, e := implicant.Implies(x, c)
					same(t, nameOf(name("Consensus", a, b), x), implies, true)
					same(t, "error of Implies", e, api.OK)
				}
			}
		}
	}
	if found < 1000 {
		t.Errorf("only %d pairs have a consensus", found)
	}
}

func TestPointsAndImplicantsAreInPrimes(t *testing.T) {
	for n := range api.MaxVars + 1 {
		all := cubes(n)
		for k, x := range tasks(n) {
			if n == 3 && k%5 != 0 {
				continue
			}
			primes, _ := implicant.Primes(x)
			union := api.Table{N: n}
			for _, c := range primes {
				table, _ := implicant.Table(n, c)
				union, _ = truth.Or(union, table)
			}
			same(t, nameOf("points that are in no prime", x), x.On.Bits&^union.Bits, 0)
			same(t, nameOf("points that are neither on nor free", x), union.Bits&^(x.On.Bits|x.Free.Bits), 0)
			if x.Free.Bits == 0 {
				same(t, nameOf("disjunction of Primes", x), union, x.On)
			}
			for _, c := range all {
				ok, _ := implicant.Implies(x, c)
				table, _ := implicant.Table(n, c)
				if !ok || table.Bits&x.On.Bits == 0 {
					continue
				}
				inside := false
				for _, p := range primes {
					in, _ := implicant.Inside(n, c, p)
					inside = inside || in
				}
				same(t, nameOf(name("implicant inside a prime", c), x), inside, true)
			}
		}
	}
}
