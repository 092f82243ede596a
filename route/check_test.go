package route

import (
	"math"
	"slices"
	"testing"

	"railplan/api"
	"railplan/layout"
)

// Promise 7.1.

func TestCheckOrdinaryRoutes(t *testing.T) {
	for _, q := range []struct {
		layout api.Layout
		routes []string
	}{
		{terminus(), []string{"T+ N1+", "T+ N2+", "N1- T-", "N2- T-"}},
		{passingLoop(), []string{"A+ L- D+", "A+ M+ D+", "A+ M+ D+ E+", "A+ M+ | D+ E+", "A+ M+ D+ | E+", "A+ L-", "L- D+", "E- D- L+ A-", "E- D- | M-", "E- D- | M- A-", "M- A-"}},
		{balloon(), []string{"T+ R+ L1+ L2+", "T+ R+ L2- L1-", "R+ L1+ S+", "S- L1- R- T-", "L1+ L2+ R- T-", "L2- L1- R- | T-", "R+ L1+ | S+"}},
		{ring(), []string{"A+ B+ C-", "B+ C- A+", "C- A+ B+", "C+ B- A-", "A- C+ B-", "B- A- C+", "A+ B+ | C-", "C- A+"}},
		{twoTracks(), []string{"A+ B+ C+ D+", "A+ B+ | C+ D+", "X+ Y+ Z+", "Z- Y- | X- W-"}},
	} {
		for _, text := range q.routes {
			expectValid(t, q.layout, routeOf(q.layout, text))
		}
	}
}

func TestCheckLayoutsThatAreNotValid(t *testing.T) {
	for _, l := range invalidLayouts() {
		expectInvalid(t, l, api.Route{Steps: []api.Step{up(0), up(1)}}, api.ErrArg)
		expectInvalid(t, l, api.Route{}, api.ErrArg)
		expectInvalid(t, l, api.Route{Steps: slices.Repeat([]api.Step{up(-1)}, 25), Overlap: 3}, api.ErrArg)
		expectInvalid(t, l, api.Route{Steps: []api.Step{up(0), up(0)}}, api.ErrArg)
	}
	expectInvalid(t, api.Layout{}, api.Route{}, api.ErrArg)
	expectInvalid(t, api.Layout{}, api.Route{Steps: []api.Step{up(0), up(1)}}, api.ErrArg)
}

func TestCheckTheNumberOfSteps(t *testing.T) {
	l := line(60)
	for overlap := range 3 {
		for _, count := range []int{22, 23, 24} {
			expectValid(t, l, along(0, count, overlap))
			expectValid(t, l, along(60-count, count, overlap))
		}
		for _, count := range []int{25, 26, 27, 60} {
			expectInvalid(t, l, along(0, count, overlap), api.ErrFull)
		}
	}
	expectInvalid(t, l, api.Route{Steps: make([]api.Step, 1<<20)}, api.ErrFull)
	if api.MaxSteps != 24 || api.MaxOverlap != 2 {
		t.Error("the limits of the tests are others")
	}
}

func TestCheckTheOverlap(t *testing.T) {
	l := line(30)
	for _, count := range []int{0, 1, 2, 3, 4, 5, 23, 24} {
		for _, overlap := range []int{math.MinInt, -1000, -3, -2, -1} {
			expectInvalid(t, l, along(0, count, overlap), api.ErrRange)
		}
		for _, overlap := range []int{3, 4, 24, 1000, math.MaxInt} {
			expectInvalid(t, l, along(0, count, overlap), api.ErrFull)
		}
	}
}

func TestCheckTheNumberOfTravelledSteps(t *testing.T) {
	l := line(30)
	for overlap := range 3 {
		for travelled := range 6 {
			switch {
			case travelled >= 2:
				expectValid(t, l, along(0, travelled+overlap, overlap))
			default:
				expectInvalid(t, l, along(0, travelled+overlap, overlap), api.ErrRange)
			}
		}
		expectInvalid(t, l, api.Route{Overlap: overlap}, api.ErrRange)
		expectInvalid(t, l, api.Route{Steps: []api.Step{}, Overlap: overlap}, api.ErrRange)
		expectValid(t, l, along(5, 24, overlap))
	}
	// All steps but one, or all of them, are the overlap, or there are fewer than the overlap says.
	expectInvalid(t, l, along(0, 2, 2), api.ErrRange)
	expectInvalid(t, l, along(0, 1, 2), api.ErrRange)
	expectInvalid(t, l, along(0, 1, 1), api.ErrRange)
}

func TestCheckStepsThatAreNotInTheLayout(t *testing.T) {
	l := line(9)
	foreign := []api.Step{up(-1), up(9), down(-1), down(9), up(math.MinInt), up(math.MaxInt), up(10), down(-9)}
	for _, dir := range []int{-1, 2, 3, math.MinInt, math.MaxInt} {
		foreign = append(foreign, api.Step{Section: 4, Dir: dir}, api.Step{Section: 0, Dir: dir}, api.Step{Section: 8, Dir: dir}, api.Step{Section: 9, Dir: dir})
	}
	for _, step := range foreign {
		for _, overlap := range []int{0, 1, 2} {
			for place := range 6 {
				r := along(2, 6, overlap)
				r.Steps[place] = step
				expectInvalid(t, l, r, api.ErrRange)
			}
		}
		expectInvalid(t, l, api.Route{Steps: []api.Step{step, step}}, api.ErrRange)
	}
}

func TestCheckSectionsPassedTwice(t *testing.T) {
	// Each step follows from the one before it.
	expectInvalid(t, ring(), routeOf(ring(), "A+ B+ C- A+"), api.ErrDuplicate)
	expectInvalid(t, ring(), routeOf(ring(), "A+ B+ C- | A+"), api.ErrDuplicate)
	expectInvalid(t, ring(), routeOf(ring(), "A+ B+ | C- A+"), api.ErrDuplicate)
	expectInvalid(t, ring(), routeOf(ring(), "B- A- C+ B- A-"), api.ErrDuplicate)
	expectInvalid(t, balloon(), routeOf(balloon(), "T+ R+ L1+ L2+ R-"), api.ErrDuplicate)
	expectInvalid(t, balloon(), routeOf(balloon(), "T+ R+ L2- L1- | R- T-"), api.ErrDuplicate)
	circle := mustParse("section A 10 20000 0\nlink A A A B\n")
	expectInvalid(t, circle, routeOf(circle, "A+ A+"), api.ErrDuplicate)
	expectInvalid(t, circle, routeOf(circle, "A- A-"), api.ErrDuplicate)
	expectInvalid(t, circle, routeOf(circle, "A+ A-"), api.ErrDuplicate)
	// Any two places, in both directions.
	l := line(24)
	for first := range 24 {
		for second := range 24 {
			if first == second {
				continue
			}
			r := along(0, 24, 2)
			r.Steps[second] = r.Steps[first]
			expectCheck(t, l, r, api.ErrDuplicate)
			r.Steps[second] = layout.Reverse(r.Steps[first])
			expectCheck(t, l, r, api.ErrDuplicate)
		}
	}
}

func TestCheckStepsWithoutAHop(t *testing.T) {
	l := passingLoop()
	for _, text := range []string{
		"A+ D+",         // no link
		"A+ L+",         // the link leads to the other end
		"A+ M-",         // the same for the other branch
		"A- M+",         // the link leads from the other end
		"D+ M-",         // the link leads backwards
		"L- M+",         // two branches of a point
		"A+ L- | M+",    // the same in the overlap
		"A+ L- D-",      // a later step
		"A+ L- D+ | E-", // the last step
	} {
		expectInvalid(t, l, routeOf(l, text), api.ErrLink)
	}
	expectInvalid(t, terminus(), routeOf(terminus(), "N1- T+"), api.ErrLink)
	expectInvalid(t, terminus(), routeOf(terminus(), "N1- N2+"), api.ErrLink)
	expectInvalid(t, line(2), api.Route{Steps: []api.Step{up(1), up(0)}}, api.ErrLink)
	expectInvalid(t, api.Layout{Sections: line(2).Sections}, along(0, 2, 0), api.ErrLink)
}

// Each transition of the longest route alone, the only link of which is missing.
func TestCheckEachTransition(t *testing.T) {
	for missing := range 23 {
		l := line(30)
		l.Links = slices.Delete(l.Links, missing, missing+1)
		for overlap := range 3 {
			expectInvalid(t, l, along(0, 24, overlap), api.ErrLink)
		}
		expectValid(t, l, along(missing+1, 5, 1))
	}
}

// fault is an error that a route along line(30), which has ten steps, can have beside others.
type fault struct {
	errno api.Errno
	apply func(l *api.Layout, r *api.Route)
}

// faultsInOrder returns the faults in the order in which they are to be reported; no two of them change the same.
func faultsInOrder() []fault {
	return []fault{
		{api.ErrArg, func(l *api.Layout, r *api.Route) { l.Sections[29].Length = 0 }},
		{api.ErrFull, func(l *api.Layout, r *api.Route) { r.Steps = append(r.Steps, along(10, 15, 0).Steps...) }},
		{api.ErrFull, func(l *api.Layout, r *api.Route) { r.Overlap = 3 }},
		{api.ErrRange, func(l *api.Layout, r *api.Route) { r.Overlap -= 100 }},
		{api.ErrRange, func(l *api.Layout, r *api.Route) { r.Steps[1] = api.Step{Section: 1, Dir: 2} }},
		{api.ErrRange, func(l *api.Layout, r *api.Route) { r.Steps[8] = up(30) }},
		{api.ErrDuplicate, func(l *api.Layout, r *api.Route) { r.Steps[2] = up(9) }},
		{api.ErrDuplicate, func(l *api.Layout, r *api.Route) { r.Steps[7] = down(0) }},
		{api.ErrLink, func(l *api.Layout, r *api.Route) { r.Steps[4] = down(4) }},
		{api.ErrLink, func(l *api.Layout, r *api.Route) { l.Links[4].B = 28 }},
	}
}

func TestCheckReturnsTheFirstError(t *testing.T) {
	faults := faultsInOrder()
	for set := range 1 << len(faults) {
		const tooGreat, negative = 1 << 2, 1 << 3
		if set&tooGreat != 0 && set&negative != 0 {
			continue
		}
		l, r, want := line(30), along(0, 10, 1), api.OK
		// Without these links there is a free end to which another one can be redirected.
		l.Links = l.Links[:26]
		for i, f := range faults {
			if set&(1<<i) != 0 {
				f.apply(&l, &r)
				if want == api.OK {
					want = f.errno
				}
			}
		}
		if want == api.OK {
			expectValid(t, l, r)
		} else {
			expectInvalid(t, l, r, want)
		}
	}
}

// Too few travelled steps are an error of the range too: it comes before those of the steps, and after those of the numbers.
func TestCheckTooFewStepsBesideOtherErrors(t *testing.T) {
	l := line(30)
	expectInvalid(t, l, api.Route{Steps: []api.Step{up(0), up(0)}, Overlap: 1}, api.ErrRange)
	expectInvalid(t, l, api.Route{Steps: []api.Step{up(0), up(7)}, Overlap: 1}, api.ErrRange)
	expectInvalid(t, l, api.Route{Steps: []api.Step{up(0)}, Overlap: 3}, api.ErrFull)
	expectInvalid(t, invalidLayouts()[api.ErrLink], api.Route{Steps: []api.Step{up(0)}}, api.ErrArg)
	expectInvalid(t, l, api.Route{Steps: slices.Repeat([]api.Step{up(0)}, 25), Overlap: -1}, api.ErrFull)
	expectInvalid(t, l, api.Route{Steps: slices.Repeat([]api.Step{up(30)}, 25)}, api.ErrFull)
}

// A step is reached from another one exactly if the way back is.
func TestCheckTheWayBack(t *testing.T) {
	for _, q := range []struct {
		layout api.Layout
		text   string
	}{{terminus(), "T+ N2+"}, {passingLoop(), "A+ L- D+ E+"}, {passingLoop(), "A+ M+ D+ E+"}, {balloon(), "T+ R+ L2- L1-"}, {ring(), "B+ C- A+"}, {twoTracks(), "A+ B+ C+ D+"}} {
		expectValid(t, q.layout, reversed(routeOf(q.layout, q.text)))
	}
}
