package schedule_test

import (
	"fmt"
	"math"
	"math/rand"
	"slices"
	"testing"

	"pneumatic/api"
	"pneumatic/schedule"
)

// P17.2

func TestBusy(t *testing.T) {
	s := read("A+ 5; B+; B-; A- 7; A+ B+ 9; A-; B- 11")
	p := plant(span(10, 20), span(30, 40), span(15, 16), span(1, 100))
	for actuator, x := range []api.Span{span(10+5+15+1+30+15+9+30, 20+5+16+100+40+20+9+40), span(15+1+15+9+30+1, 16+100+20+9+40+100)} {
		busy, e := schedule.Busy(s, p, actuator)
		expect(t, "Busy", busy, e, x, api.OK)
	}
	for _, actuator := range []int{-1, 2, 6, 7, math.MinInt, math.MaxInt, api.None} {
		busy, e := schedule.Busy(s, p, actuator)
		expect(t, "Busy", busy, e, api.Span{}, api.ErrRange)
	}
	// What happens beside the stroke in, and behind it, is of no account.
	s, p = read("A+ 3; A- B+ 1000; B- 10"), plant(span(1, 2), span(4, 8), span(500, 700), span(90, 90))
	busy, e := schedule.Busy(s, p, 0)
	expect(t, "Busy", busy, e, span(8, 13), api.OK)
}

func TestRun(t *testing.T) {
	r := rand.New(rand.NewSource(173))
	for _, m := range machines() {
		for _, time := range []func(api.Span) int{lowOf, highOf, func(x api.Span) int { return x.Low + r.Intn(x.High-x.Low+1) }} {
			times := m.chosen(time)
			ends, e := schedule.Run(m.s, m.p, times)
			expect(t, named("Run", m.s, m.p), ends, e, m.moments(times).end, api.OK)
		}
	}
}

func TestErrorsOfRun(t *testing.T) {
	s, p := ofDocument()
	for _, x := range []struct {
		times [][]int
		ends  []int
		e     api.Errno
	}{
		{[][]int{{200, 250}, {150}, {100}}, []int{250, 500, 600}, api.OK}, {[][]int{{300, 250}, {150}, {400}}, []int{300, 550, 950}, api.OK},
		{nil, nil, api.ErrShape}, {[][]int{{200, 250}, {150}}, nil, api.ErrShape}, {[][]int{{200, 250}, {150}, {100}, {}}, nil, api.ErrShape}, {[][]int{{200, 250}, {150}, {100}, {100}}, nil, api.ErrShape}, {[][]int{{1}, {1}}, nil, api.ErrShape}, {make([][]int, 1<<20), nil, api.ErrShape},
		{[][]int{{200}, {150}, {100}}, nil, api.ErrShape}, {[][]int{{200, 250, 150}, {150}, {100}}, nil, api.ErrShape}, {[][]int{{200, 250}, {}, {100}}, nil, api.ErrShape}, {[][]int{{200, 250}, {150}, nil}, nil, api.ErrShape}, {[][]int{{200, 250}, {150, 100}, {}}, nil, api.ErrShape}, {make([][]int, 3), nil, api.ErrShape},
		{[][]int{{199, 250}, {150}, {100}}, nil, api.ErrRange}, {[][]int{{301, 250}, {150}, {100}}, nil, api.ErrRange}, {[][]int{{200, 249}, {150}, {100}}, nil, api.ErrRange}, {[][]int{{200, 251}, {150}, {100}}, nil, api.ErrRange}, {[][]int{{200, 250}, {149}, {100}}, nil, api.ErrRange}, {[][]int{{200, 250}, {151}, {100}}, nil, api.ErrRange}, {[][]int{{200, 250}, {150}, {99}}, nil, api.ErrRange}, {[][]int{{200, 250}, {150}, {401}}, nil, api.ErrRange}, {[][]int{{250, 200}, {150}, {100}}, nil, api.ErrRange}, {[][]int{{math.MinInt, 250}, {150}, {100}}, nil, api.ErrRange}, {[][]int{{200, 250}, {math.MaxInt}, {100}}, nil, api.ErrRange}, {[][]int{{200, 250}, {150}, {api.None}}, nil, api.ErrRange},
		{[][]int{{199, 250}, {}, {100}}, nil, api.ErrRange}, {[][]int{{200}, {149}, {100}}, nil, api.ErrShape}, {[][]int{{0}, {149}, {100}}, nil, api.ErrShape}, {[][]int{{200, 250}, {149}, {}}, nil, api.ErrRange}, {[][]int{{200, 250}, {}, {0}}, nil, api.ErrShape},
	} {
		ends, e := schedule.Run(s, p, x.times)
		expect(t, fmt.Sprint("Run ", x.times[:min(4, len(x.times))]), ends, e, x.ends, x.e)
	}
}

func TestMeets(t *testing.T) {
	for _, m := range machines() {
		least, greatest := slices.Max(m.moments(m.chosen(lowOf)).end), slices.Max(m.moments(m.chosen(highOf)).end)
		for _, most := range []int{0, 1, least - 1, least, least + 1, (least + greatest) / 2, greatest - 1, greatest, greatest + 1, 1000000} {
			expected, f := [2]bool{greatest <= most, least <= most}, api.OK
			if most < 0 || most > 1000000 {
				expected, f = [2]bool{}, api.ErrRange
			}
			surely, perhaps, e := schedule.Meets(m.s, m.p, most)
			expect(t, named("Meets", m.s, m.p), [2]bool{surely, perhaps}, e, expected, f)
		}
	}
	s, p := ofDocument()
	for _, most := range []int{-1, 1000001, math.MinInt, math.MaxInt, api.None} {
		surely, perhaps, e := schedule.Meets(s, p, most)
		expect(t, "Meets", [2]bool{surely, perhaps}, e, [2]bool{}, api.ErrRange)
	}
}
