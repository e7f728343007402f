package timespan_test

import (
	"math"
	"math/rand"
	"regexp"
	"slices"
	"strconv"
	"strings"
	"testing"

	"pneumatic/api"
	"pneumatic/timespan"
)

const most = api.MaxTime

var none api.Span

func of(low, high int) api.Span { return api.Span{Low: low, High: high} }

func same[T comparable](t *testing.T, what string, got, expected T) {
	t.Helper()
	if got != expected {
		t.Errorf("%s: %v instead of %v", what, got, expected)
	}
}

// pair is a span, and what Check returns for it.
type pair struct {
	a api.Span
	e api.Errno
}

func wrong() []pair {
	return []pair{
		{of(-1, 0), api.ErrRange}, {of(0, -1), api.ErrRange}, {of(-1, -2), api.ErrRange}, {of(-2, -1), api.ErrRange}, {of(-1, -1), api.ErrRange},
		{of(most+1, most+1), api.ErrRange}, {of(0, most+1), api.ErrRange}, {of(most+1, 0), api.ErrRange}, {of(most+2, most+1), api.ErrRange}, {of(-1, most+1), api.ErrRange}, {of(-1, 5), api.ErrRange}, {of(5, -1), api.ErrRange},
		{of(math.MinInt, math.MaxInt), api.ErrRange}, {of(math.MaxInt, math.MinInt), api.ErrRange}, {of(math.MinInt, 0), api.ErrRange}, {of(0, math.MaxInt), api.ErrRange}, {of(api.None, api.None), api.ErrRange}, {of(3, api.None), api.ErrRange},
		{of(1, 0), api.ErrOrder}, {of(most, 0), api.ErrOrder}, {of(most, most-1), api.ErrOrder}, {of(9, 7), api.ErrOrder},
	}
}

func right() []pair {
	return []pair{{of(0, 0), api.OK}, {of(0, 1), api.OK}, {of(7, 7), api.OK}, {of(10, 20), api.OK}, {of(0, most), api.OK}, {of(most, most), api.OK}, {of(most-1, most), api.OK}}
}

type combination func(a, b api.Span) (api.Span, api.Errno)

func combinations() map[string]combination {
	return map[string]combination{"Add": timespan.Add, "Later": timespan.Later, "Earlier": timespan.Earlier, "Hull": timespan.Hull}
}

// expect compares the result of a call with a span and an error.
func expect(t *testing.T, what string, a api.Span, e api.Errno, expected api.Span, f api.Errno) {
	t.Helper()
	same(t, what, a, expected)
	same(t, "error of "+what, e, f)
}

// name returns the name of a call.
func name(function string, l ...api.Span) string {
	for _, a := range l {
		function += " " + strconv.Itoa(a.Low) + ".." + strconv.Itoa(a.High)
	}
	return function
}

// all returns the spans of times from first to last.
func all(first, last int) []api.Span {
	var l []api.Span
	for low := first; low <= last; low++ {
		for high := low; high <= last; high++ {
			l = append(l, of(low, high))
		}
	}
	return l
}

// times returns the times of a span.
func times(a api.Span) []int {
	var l []int
	for t := a.Low; t <= a.High; t++ {
		l = append(l, t)
	}
	return l
}

// outcomes returns what a function makes of a time of the one span and one of the other, ascending.
func outcomes(a, b api.Span, f func(x, y int) int) []int {
	var l []int
	for _, x := range times(a) {
		for _, y := range times(b) {
			l = append(l, f(x, y))
		}
	}
	slices.Sort(l)
	return slices.Compact(l)
}

// random returns a span of times up to last.
func random(r *rand.Rand, last int) api.Span {
	x, y := r.Intn(last+1), r.Intn(last+1)
	return of(min(x, y), max(x, y))
}

// inside returns a time of a span.
func inside(r *rand.Rand, a api.Span) int { return a.Low + r.Intn(a.High-a.Low+1) }

// P3.1

func TestCheckAndOfAcceptSpansAlone(t *testing.T) {
	for _, x := range append(wrong(), right()...) {
		expected := x.a
		if x.e != api.OK {
			expected = none
		}
		same(t, name("Check", x.a), timespan.Check(x.a), x.e)
		a, e := timespan.Of(x.a.Low, x.a.High)
		expect(t, name("Of", x.a), a, e, expected, x.e)
	}
}

func TestFirstErrorOfTwoSpans(t *testing.T) {
	l := append(wrong(), right()...)
	for _, x := range l {
		for _, y := range l {
			expected := x.e
			if expected == api.OK {
				expected = y.e
			}
			if expected == api.OK {
				continue
			}
			for function, call := range combinations() {
				a, e := call(x.a, y.a)
				expect(t, name(function, x.a, y.a), a, e, none, expected)
			}
			a, ok, e := timespan.Meet(x.a, y.a)
			expect(t, name("Meet", x.a, y.a), a, e, none, expected)
			in, f := timespan.Within(x.a, y.a)
			order, g := timespan.Compare(x.a, y.a)
			same(t, name("Meet, Within", x.a, y.a), ok || in, false)
			same(t, name("Compare", x.a, y.a), order, 0)
			same(t, name("errors of Within and Compare", x.a, y.a), [2]api.Errno{f, g}, [2]api.Errno{expected, expected})
		}
	}
}

func TestErrorOfOneSpan(t *testing.T) {
	for _, x := range wrong() {
		for _, k := range []int{0, 1, 2, -1, api.MaxCount, api.MaxCount + 1} {
			a, e := timespan.Scale(x.a, k)
			expect(t, name("Scale", x.a), a, e, none, x.e)
		}
		text, e := timespan.Format(x.a)
		same(t, name("Format", x.a), text, "")
		same(t, name("error of Format", x.a), e, x.e)
	}
}

func TestCombinationsOfTheDocument(t *testing.T) {
	a, b := of(10, 20), of(5, 30)
	for function, expected := range map[string]api.Span{"Add": of(15, 50), "Later": of(10, 30), "Earlier": of(5, 20), "Hull": of(5, 30)} {
		for _, x := range [][2]api.Span{{a, b}, {b, a}} {
			c, e := combinations()[function](x[0], x[1])
			expect(t, name(function, x[0], x[1]), c, e, expected, api.OK)
		}
	}
	meet, ok, e := timespan.Meet(a, b)
	expect(t, "Meet", meet, e, of(10, 20), api.OK)
	same(t, "Meet", ok, true)
}

func TestSumsAreNotTooLarge(t *testing.T) {
	for _, x := range []struct {
		a, b, sum api.Span
		e         api.Errno
	}{
		{of(0, 0), of(0, 0), of(0, 0), api.OK}, {of(0, most), of(0, 0), of(0, most), api.OK}, {of(most, most), of(0, 0), of(most, most), api.OK}, {of(1, most/2), of(2, most/2), of(3, most), api.OK}, {of(most/2, most/2), of(most/2, most/2), of(most, most), api.OK}, {of(0, most-1), of(0, 1), of(0, most), api.OK},
		{of(0, most), of(0, 1), none, api.ErrLarge}, {of(0, most), of(1, 1), none, api.ErrLarge}, {of(0, most/2+1), of(0, most/2), none, api.ErrLarge}, {of(most, most), of(most, most), none, api.ErrLarge}, {of(most, most), of(1, 1), none, api.ErrLarge},
	} {
		sum, e := timespan.Add(x.a, x.b)
		expect(t, name("Add", x.a, x.b), sum, e, x.sum, x.e)
		sum, e = timespan.Add(x.b, x.a)
		expect(t, name("Add", x.b, x.a), sum, e, x.sum, x.e)
	}
}

func TestScaleReturnsMultiples(t *testing.T) {
	for _, x := range []struct {
		a        api.Span
		k        int
		multiple api.Span
		e        api.Errno
	}{
		{of(3, 4), 0, of(0, 0), api.OK}, {of(3, 4), 1, of(3, 4), api.OK}, {of(3, 4), 5, of(15, 20), api.OK}, {of(0, 9), 7, of(0, 63), api.OK}, {of(0, most), 0, of(0, 0), api.OK}, {of(5, most), 1, of(5, most), api.OK}, {of(0, most/2), 2, of(0, most), api.OK}, {of(1, 1), most, of(most, most), api.OK}, {of(0, 0), api.MaxCount, of(0, 0), api.OK},
		{of(0, most/2+1), 2, none, api.ErrLarge}, {of(0, most), 2, none, api.ErrLarge}, {of(1, 1), most + 1, none, api.ErrLarge}, {of(0, 1), api.MaxCount, none, api.ErrLarge}, {of(most, most), api.MaxCount, none, api.ErrLarge},
		{of(0, 0), -1, none, api.ErrRange}, {of(0, 0), api.MaxCount + 1, none, api.ErrRange}, {of(3, most), -1, none, api.ErrRange}, {of(3, most), api.MaxCount + 1, none, api.ErrRange}, {of(1, 2), math.MaxInt, none, api.ErrRange}, {of(1, 2), math.MinInt, none, api.ErrRange}, {of(1, 2), api.None, none, api.ErrRange},
	} {
		multiple, e := timespan.Scale(x.a, x.k)
		expect(t, name("Scale", x.a)+" by "+strconv.Itoa(x.k), multiple, e, x.multiple, x.e)
	}
}

func TestCombinationsHaveAllTimes(t *testing.T) {
	functions := map[string]func(x, y int) int{
		"Add":     func(x, y int) int { return x + y },
		"Later":   func(x, y int) int { return max(x, y) },
		"Earlier": func(x, y int) int { return min(x, y) },
	}
	for _, first := range []int{0, 100, most/2 - 6} {
		l := all(first, first+6)
		for _, a := range l {
			for _, b := range l {
				for function, f := range functions {
					c, e := combinations()[function](a, b)
					same(t, name("error of "+function, a, b), e, api.OK)
					if !slices.Equal(times(c), outcomes(a, b, f)) {
						t.Errorf("%s: %v", name(function, a, b), c)
					}
				}
			}
		}
	}
}

func TestMultiplesHaveAllTimes(t *testing.T) {
	for _, a := range all(0, 6) {
		sums := of(0, 0)
		for k := range 8 {
			c, e := timespan.Scale(a, k)
			expect(t, name("Scale", a)+" by "+strconv.Itoa(k), c, e, sums, api.OK)
			l := outcomes(sums, a, func(x, y int) int { return x + y })
			sums = of(l[0], l[len(l)-1])
		}
	}
}

// P3.2

func TestMeetHullWithinAndCompareFollowTheTimes(t *testing.T) {
	for _, first := range []int{0, 100, most - 6} {
		l := all(first, first+6)
		for _, a := range l {
			for _, b := range l {
				x, y := times(a), times(b)
				common := slices.DeleteFunc(times(a), func(t int) bool { return !slices.Contains(y, t) })
				expected, order := none, 0
				if len(common) > 0 {
					expected = of(common[0], common[len(common)-1])
				} else if x[0] < y[0] {
					order = -1
				} else {
					order = 1
				}
				meet, ok, e := timespan.Meet(a, b)
				expect(t, name("Meet", a, b), meet, e, expected, api.OK)
				same(t, name("Meet", a, b), ok, len(common) > 0)
				both := slices.Sorted(slices.Values(append(x[:len(x):len(x)], y...)))
				hull, e := timespan.Hull(a, b)
				expect(t, name("Hull", a, b), hull, e, of(both[0], both[len(both)-1]), api.OK)
				in, e := timespan.Within(a, b)
				same(t, name("Within", a, b), in, len(common) == len(x))
				same(t, name("error of Within", a, b), e, api.OK)
				n, e := timespan.Compare(a, b)
				same(t, name("Compare", a, b), n, order)
				same(t, name("error of Compare", a, b), e, api.OK)
			}
		}
	}
}

func TestSpansThatTouchMeet(t *testing.T) {
	for _, x := range []struct {
		a, b  api.Span
		meet  api.Span
		ok    bool
		order int
	}{
		{of(1, 4), of(5, 9), none, false, -1}, {of(5, 9), of(1, 4), none, false, 1}, {of(1, 5), of(5, 9), of(5, 5), true, 0}, {of(5, 9), of(1, 5), of(5, 5), true, 0}, {of(0, 0), of(most, most), none, false, -1}, {of(0, most), of(most, most), of(most, most), true, 0}, {of(0, 0), of(0, 0), none, true, 0},
	} {
		meet, ok, e := timespan.Meet(x.a, x.b)
		expect(t, name("Meet", x.a, x.b), meet, e, x.meet, api.OK)
		same(t, name("Meet", x.a, x.b), ok, x.ok)
		order, e := timespan.Compare(x.a, x.b)
		same(t, name("Compare", x.a, x.b), order, x.order)
		same(t, name("error of Compare", x.a, x.b), e, api.OK)
	}
}

// repeated returns a list of n equal spans.
func repeated(n int, a api.Span) []api.Span { return slices.Repeat([]api.Span{a}, n) }

func TestSumsOfLists(t *testing.T) {
	bad := of(-1, 0)
	for what, x := range map[string]struct {
		l []api.Span
		a api.Span
		e api.Errno
	}{
		"none": {nil, of(0, 0), api.OK}, "empty": {[]api.Span{}, of(0, 0), api.OK}, "one": {[]api.Span{of(3, 8)}, of(3, 8), api.OK}, "three": {[]api.Span{of(10, 20), of(5, 30), of(7, 7)}, of(22, 57), api.OK},
		"to the limit": {[]api.Span{of(1, most-2), of(0, 1), of(1, 1)}, of(2, most), api.OK}, "large": {[]api.Span{of(0, most), of(0, 0), of(0, 1)}, none, api.ErrLarge}, "large at first": {[]api.Span{of(most, most), of(most, most), of(0, 0)}, none, api.ErrLarge},
		"many": {repeated(api.MaxList, of(1, 2)), of(api.MaxList, 2*api.MaxList), api.OK}, "too many": {repeated(api.MaxList+1, of(0, 0)), none, api.ErrMany}, "too many wrong ones": {repeated(api.MaxList+1, bad), none, api.ErrMany}, "many and large": {repeated(api.MaxList, of(0, most)), none, api.ErrLarge}, "too many and large": {repeated(api.MaxList+1, of(0, most)), none, api.ErrMany},
		"wrong": {[]api.Span{bad}, none, api.ErrRange}, "wrong order": {[]api.Span{of(1, 2), of(2, 1)}, none, api.ErrOrder}, "range before order": {[]api.Span{of(1, 2), bad, of(2, 1)}, none, api.ErrRange}, "order before range": {[]api.Span{of(2, 1), of(1, 2), bad}, none, api.ErrOrder}, "large before wrong": {[]api.Span{of(0, most), of(1, 1), of(2, 1)}, none, api.ErrOrder}, "last one wrong": {append(repeated(api.MaxList-1, of(most, most)), bad), none, api.ErrRange},
	} {
		before := slices.Clone(x.l)
		a, e := timespan.Sum(x.l)
		expect(t, "Sum, "+what, a, e, x.a, x.e)
		same(t, "list is kept, "+what, slices.Equal(before, x.l), true)
	}
}

func TestTexts(t *testing.T) {
	for _, x := range []struct {
		a    api.Span
		text string
	}{{of(20, 30), "20..30"}, {of(7, 7), "7"}, {of(0, 0), "0"}, {of(0, 1), "0..1"}, {of(0, most), "0..1000000"}, {of(most, most), "1000000"}, {of(999999, most), "999999..1000000"}, {of(100, 100), "100"}, {of(9, 10), "9..10"}} {
		text, e := timespan.Format(x.a)
		same(t, name("Format", x.a), text, x.text)
		same(t, name("error of Format", x.a), e, api.OK)
		a, e := timespan.Parse(x.text)
		expect(t, "Parse "+x.text, a, e, x.a, api.OK)
	}
}

func TestErrorsOfTexts(t *testing.T) {
	for e, l := range map[api.Errno][]string{
		api.ErrForm:  {"7..7", "0..0", "1000000..1000000"},
		api.ErrOrder: {"9..7", "1..0", "1000000..999999"},
		api.ErrRange: {"1000001", "9999999", "1000001..5", "5..1000001", "9999999..1", "1000001..1000001", "9999999..9999999", "1000002..1000001"},
		api.ErrSyntax: {
			"", ".", "..", "...", "7..", "..7", "7.", ".7", "7.7", "7...9", "7....9", "7..9..", "..7..9", "7..9..11", "7.9..11", "7-9", "7,9", "7:9", "7…9", "7 .. 9", " 7", "7 ", "7\n", "7..9\n", "7.. 9", "07", "00", "07..9", "7..09", "00..1", "0..00", "-1", "+1", "-0", "-1..1", "1..-1", "+7..9", "x", "7x", "x7", "7..x", "x..7", "1e3", "0x7", "1_0", "7\x00", "\x00", "\xff", "7\xff", "٣", "१..२", "７",
			"10000000", "10000000..5", "5..10000000", "00000007", "99999999", "99999999999999999999", "1..99999999999999999999", strings.Repeat("9", api.MaxName), strings.Repeat("9", api.MaxName+1), "7.." + strings.Repeat("0", api.MaxName), strings.Repeat(" ", api.MaxName) + "7", strings.Repeat("7..9", 99), strings.Repeat("0", api.MaxText),
		},
	} {
		for _, text := range l {
			a, f := timespan.Parse(text)
			expect(t, "Parse "+strconv.Quote(text), a, f, none, e)
		}
	}
}

var form = regexp.MustCompile(`^(0|[1-9][0-9]{0,6})(\.\.(0|[1-9][0-9]{0,6}))?$`)

// parsed returns what Parse returns, straight from its definition.
func parsed(text string) (api.Span, api.Errno) {
	m := form.FindStringSubmatch(text)
	if m == nil {
		return none, api.ErrSyntax
	}
	low, _ := strconv.Atoi(m[1])
	high := low
	if m[2] != "" {
		high, _ = strconv.Atoi(m[3])
	}
	switch {
	case low > most || high > most:
		return none, api.ErrRange
	case low > high:
		return none, api.ErrOrder
	case m[2] != "" && low == high:
		return none, api.ErrForm
	}
	return of(low, high), api.OK
}

// words calls f with all words of up to n of some letters.
func words(letters string, n int, word string, f func(string)) {
	f(word)
	if n == 0 {
		return
	}
	for i := range len(letters) {
		words(letters, n-1, word+letters[i:i+1], f)
	}
}

func TestParseReadsTextsAlone(t *testing.T) {
	words("019.-", 6, "", func(text string) {
		expected, f := parsed(text)
		a, e := timespan.Parse(text)
		expect(t, "Parse "+text, a, e, expected, f)
	})
	r := rand.New(rand.NewSource(31))
	for range 20000 {
		text := ""
		for range 1 + r.Intn(4) {
			text += []string{"..", "0", "1", "7", "24", "999", "1000000", "1000001", "10000000", "9999999", "."}[r.Intn(11)]
		}
		expected, f := parsed(text)
		a, e := timespan.Parse(text)
		expect(t, "Parse "+text, a, e, expected, f)
	}
}

// P3.3

func TestTimesOfSpansCombineToTimesOfTheResult(t *testing.T) {
	r := rand.New(rand.NewSource(32))
	for range 3000 {
		last := []int{9, 1000, most / 2}[r.Intn(3)]
		a, b := random(r, last), random(r, last)
		sum, _ := timespan.Add(a, b)
		later, _ := timespan.Later(a, b)
		earlier, _ := timespan.Earlier(a, b)
		hull, _ := timespan.Hull(a, b)
		x, y := inside(r, a), inside(r, b)
		for _, z := range []struct {
			what string
			time int
			c    api.Span
		}{{"Add", x + y, sum}, {"Later", max(x, y), later}, {"Earlier", min(x, y), earlier}, {"Hull", x, hull}, {"Hull", y, hull}} {
			same(t, name(z.what, a, b), z.c.Low <= z.time && z.time <= z.c.High, true)
		}
		// Each time of the sum is one of a and one of b: as much as possible of it is taken from a.
		z := inside(r, sum)
		x = min(a.High, z-b.Low)
		same(t, name("all times of Add", a, b), a.Low <= x && b.Low <= z-x && z-x <= b.High, true)
		both, e := timespan.Add(earlier, later)
		expect(t, name("the earlier and the later one", a, b), both, e, sum, api.OK)
	}
}

func TestSpansAreComparedAsZeroIfTheyMeet(t *testing.T) {
	r := rand.New(rand.NewSource(33))
	for range 3000 {
		last := []int{5, 40, most}[r.Intn(3)]
		a, b := random(r, last), random(r, last)
		order, _ := timespan.Compare(a, b)
		opposite, _ := timespan.Compare(b, a)
		meet, ok, _ := timespan.Meet(a, b)
		same(t, name("Compare", a, b), order == 0, ok)
		same(t, name("Compare", a, b), opposite, -order)
		same(t, name("Compare", a, b), order >= -1 && order <= 1, true)
		if !ok {
			same(t, name("Compare", a, b), order < 0, inside(r, a) < inside(r, b))
			continue
		}
		for _, whole := range []api.Span{a, b} {
			in, _ := timespan.Within(meet, whole)
			same(t, name("Meet within", meet, whole), in, true)
		}
	}
}

func TestSumsOfListsAreSumsOfTheirSpans(t *testing.T) {
	r := rand.New(rand.NewSource(34))
	for range 500 {
		l := make([]api.Span, r.Intn(12))
		expected := of(0, 0)
		for i := range l {
			l[i] = random(r, []int{9, most / 12, most / 4}[r.Intn(3)])
			expected = of(expected.Low+l[i].Low, expected.High+l[i].High)
		}
		f := api.OK
		if expected.High > most {
			expected, f = none, api.ErrLarge
		}
		a, e := timespan.Sum(l)
		expect(t, name("Sum", l...), a, e, expected, f)
		slices.Reverse(l)
		a, e = timespan.Sum(l)
		expect(t, name("Sum", l...), a, e, expected, f)
	}
	for _, a := range all(0, 5) {
		for k := range 9 {
			sum, _ := timespan.Sum(repeated(k, a))
			multiple, _ := timespan.Scale(a, k)
			same(t, name("Sum of equal spans", a), sum, multiple)
		}
	}
}

func TestTextsAreReadBack(t *testing.T) {
	r := rand.New(rand.NewSource(35))
	l := all(0, 12)
	for range 3000 {
		l = append(l, random(r, []int{99, 12345, most}[r.Intn(3)]))
	}
	for _, x := range right() {
		l = append(l, x.a)
	}
	for _, a := range l {
		text, e := timespan.Format(a)
		same(t, name("error of Format", a), e, api.OK)
		b, f := timespan.Parse(text)
		expect(t, "Parse "+text, b, f, a, api.OK)
	}
}
