package route

import (
	"slices"
	"strconv"
	"testing"

	"railplan/api"
)

// Promise 7.3.

func TestResources(t *testing.T) {
	for _, q := range []struct {
		layout api.Layout
		text   string
		want   []int
	}{
		{terminus(), "T+ N1+", []int{0, 1, 3}},
		{terminus(), "T+ N2+", []int{0, 2, 3}},
		{terminus(), "N2- T-", []int{0, 2, 3}},
		{passingLoop(), "A+ L-", []int{0, 1, 5}},
		{passingLoop(), "A+ L- D+", []int{0, 1, 3, 5, 6}},
		{passingLoop(), "A+ M+ D+ E+", []int{0, 2, 3, 4, 5, 6}},
		{passingLoop(), "E- D- M-", []int{2, 3, 4, 6}},
		{passingLoop(), "M+ D+", []int{2, 3, 6}},
		{passingLoop(), "D+ E+", []int{3, 4}}, // no point
		{balloon(), "T+ R+ L2- L1-", []int{0, 1, 2, 3, 5, 6}},
		{balloon(), "R+ L1+ S+", []int{1, 2, 4, 5, 6}},
		{balloon(), "L1+ L2+ R- T-", []int{0, 1, 2, 3, 5, 6}},
		{ring(), "C- A+ B+", []int{0, 1, 2}},
		{line(96), "S95- S94- S93-", []int{93, 94, 95}},
	} {
		expectResources(t, q.layout, routeOf(q.layout, q.text), q.want...)
	}
}

func TestResourcesOfTheOverlap(t *testing.T) {
	l := passingLoop()
	expectResources(t, l, routeOf(l, "A+ M+ | D+"), 0, 2, 3, 5, 6)
	expectResources(t, l, routeOf(l, "A+ M+ | D+ E+"), 0, 2, 3, 4, 5, 6)
	expectResources(t, l, routeOf(l, "D- L+ | A-"), 0, 1, 3, 5, 6)
	expectResources(t, l, routeOf(l, "E- D- | M- A-"), 0, 2, 3, 4, 5, 6)
	expectResources(t, l, routeOf(l, "E- D- | M-"), 2, 3, 4, 6)
}

// A route may lead over one point several times, in the same or in the other position.
func TestResourcesNameEachPointOnce(t *testing.T) {
	l := twoTracks()
	expectResources(t, l, routeOf(l, "X+ Y+ Z+"), 5, 6, 7, 8)
	expectResources(t, l, routeOf(l, "W+ X+ Y+ Z+"), 4, 5, 6, 7, 8)
	expectResources(t, l, routeOf(l, "Z- Y- | X-"), 5, 6, 7, 8)
	// The second transition has the point with the lesser number.
	expectResources(t, l, routeOf(l, "A+ B+ C+"), 0, 1, 2, 8, 9)
	expectResources(t, l, routeOf(l, "C- B- A-"), 0, 1, 2, 8, 9)
	expectResources(t, l, routeOf(l, "A+ B+ C+ D+"), 0, 1, 2, 3, 8, 9)
	// One point for all transitions that have one.
	for i := range l.Links {
		if l.Links[i].Point == 0 {
			l.Links[i].Point = 1
		}
	}
	expectResources(t, l, routeOf(l, "A+ B+ C+ D+"), 0, 1, 2, 3, 9)
	expectResources(t, l, routeOf(l, "D- C- | B- A-"), 0, 1, 2, 3, 9)
}

// withAPointEach returns the longest line, with a point at each transition, the greatest number first, and the longest route at its end.
func withAPointEach() (api.Layout, api.Route) {
	l := line(api.MaxSections)
	for i := range api.MaxPoints {
		l.Points = append(l.Points, "P"+strconv.Itoa(i))
	}
	for i := range l.Links {
		l.Links[i].Point = 47 - i%48
	}
	return l, along(72, 24, 2)
}

func TestResourcesOfTheLongestRoute(t *testing.T) {
	l, r := withAPointEach()
	var want []int
	for i := range 24 {
		want = append(want, 72+i)
	}
	// The links 72 to 94 have the points 23 to 1.
	for point := 1; point <= 23; point++ {
		want = append(want, 96+point)
	}
	expectResources(t, l, r, want...)
	expectResources(t, l, reversed(r), want...)
	expectResources(t, l, along(0, 2, 0), 0, 1, 96+47)
	expectResources(t, l, along(47, 2, 0), 47, 48, 96)
}

// routesOf returns the routes of two texts in a layout.
func routesOf(l api.Layout, a, b string) (api.Layout, api.Route, api.Route) {
	return l, routeOf(l, a), routeOf(l, b)
}

func TestClashes(t *testing.T) {
	for _, q := range []struct {
		layout api.Layout
		a, b   string
		want   bool
	}{
		{terminus(), "T+ N1+", "T+ N2+", true},
		{terminus(), "T+ N1+", "N1- T-", true},
		{passingLoop(), "A+ L-", "M+ D+", false},
		{passingLoop(), "A+ M+", "L- D+", false},
		{passingLoop(), "L+ A-", "D- M-", false},
		{passingLoop(), "D+ E+", "A+ M+", false},
		{passingLoop(), "D+ E+", "A+ M+ | D+", true}, // only D, in the overlap of one of them
		{passingLoop(), "A+ L-", "L- D+", true},      // only L
		{passingLoop(), "A+ L-", "D- L+", true},      // only L, in the other direction
		{passingLoop(), "A+ L-", "M- A-", true},
		{twoTracks(), "A+ B+", "W+ X+", false},
		{twoTracks(), "C+ D+", "X+ Y+", false},
		{twoTracks(), "B+ C+", "W+ X+", false},
		{twoTracks(), "A+ B+", "X+ Y+ Z+", false},          // one has only the point Q, the other one only P
		{twoTracks(), "B+ C+", "X+ Y+", true},              // only the point P
		{twoTracks(), "C- B-", "Y+ Z+", true},              // only the point P, in its two positions
		{twoTracks(), "A+ B+ | C+", "X+ Y+", true},         // only the point P, into the overlap of one
		{twoTracks(), "A+ B+ | C+ D+", "W+ X+ | Y+", true}, // only the point P, into the overlaps of both
		{twoTracks(), "D- C- | B-", "W+ X+ | Y+", true},
		{balloon(), "T+ R+ | L1+", "S- L1-", true}, // the section L1
		{balloon(), "T+ R+", "L1+ L2+", false},
		{balloon(), "T+ R+", "L1- R-", true},
		{ring(), "A+ B+", "B+ C-", true},
		{ring(), "A+ B+", "C- A+", true},
		{line(9), "S0+ S1+", "S2+ S3+", false},
		{line(9), "S0+ S1+ | S2+", "S2+ S3+", true},
		{line(9), "S0+ S1+ | S2+", "S5- S4- | S3-", false},
		{line(9), "S0+ S1+ | S2+ S3+", "S5- S4- | S3-", true}, // only the ends of both overlaps
		{line(9), "S0+ S1+", "S7+ S8+", false},
		{line(9), "S0+ S1+ S2+ S3+", "S3+ S4+ S5+", true}, // the greatest of the one is the least of the other
	} {
		l, a, b := routesOf(q.layout, q.a, q.b)
		expectClashes(t, l, a, b, q.want)
		expectClashes(t, l, a, a, true)
		expectClashes(t, l, b, b, true)
	}
}

func TestClashesErrors(t *testing.T) {
	l := line(30)
	good := along(0, 5, 1)
	invalid := map[api.Errno]api.Route{
		api.ErrFull:      along(0, 25, 0),
		api.ErrRange:     along(0, 5, -1),
		api.ErrDuplicate: {Steps: []api.Step{up(0), up(1), up(0)}},
		api.ErrLink:      {Steps: []api.Step{up(0), up(2)}},
	}
	for errno, r := range invalid {
		expectClashesError(t, l, r, good, errno)
		expectClashesError(t, l, good, r, errno)
		for _, other := range invalid {
			expectClashesError(t, l, r, other, errno)
		}
	}
	for _, broken := range invalidLayouts() {
		expectClashesError(t, broken, api.Route{Steps: []api.Step{up(0), up(1)}}, api.Route{Steps: []api.Step{up(0), up(2)}}, api.ErrArg)
		expectClashesError(t, broken, api.Route{}, api.Route{Overlap: 3}, api.ErrArg)
	}
	expectClashes(t, l, good, along(20, 5, 1), false)
}

// A route clashes with another one also if it has too many cells for Cells.
func TestClashesOfLongRoutes(t *testing.T) {
	l := withLengths(slices.Repeat([]int{400}, 60)...)
	expectClashes(t, l, along(0, 24, 0), along(24, 24, 2), false)
	expectClashes(t, l, along(0, 24, 0), along(23, 24, 2), true)
}

// The chapter's example.

func TestExampleOfResources(t *testing.T) {
	expectResources(t, terminus(), api.Route{Steps: []api.Step{up(0), up(2)}}, 0, 2, 3)
}
