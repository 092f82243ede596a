package route

import (
	"math"
	"math/rand"
	"slices"
	"testing"

	"railplan/api"
)

// Promise 7.4.

func expectRoutesOf(t *testing.T, l api.Layout, from, to string, units int, texts ...string) {
	t.Helper()
	var want []api.Route
	for _, text := range texts {
		want = append(want, routeOf(l, text))
	}
	expectRoutes(t, l, steps(l, from)[0], steps(l, to+"+")[0].Section, units, want...)
}

func expectNoRouteOf(t *testing.T, l api.Layout, from, to string, units int) {
	t.Helper()
	expectNoRoute(t, l, steps(l, from)[0], steps(l, to+"+")[0].Section, units)
}

func TestFindOneWay(t *testing.T) {
	expectRoutesOf(t, terminus(), "T+", "N1", 3, "T+ N1+") // N2 is tried after N1
	expectRoutesOf(t, terminus(), "N1-", "T", 2, "N1- T-")
	expectRoutesOf(t, line(9), "S2+", "S5", 4, "S2+ S3+ S4+ S5+")
	expectRoutesOf(t, line(9), "S5-", "S2", 4, "S5- S4- S3- S2-")
	expectRoutesOf(t, line(9), "S0+", "S8", 9, "S0+ S1+ S2+ S3+ S4+ S5+ S6+ S7+ S8+")
	expectRoutesOf(t, line(9), "S7+", "S8", 2, "S7+ S8+")
}

// Ways are found in the order of the links, not of the sections, the positions or the lengths.
func TestFindTwoWays(t *testing.T) {
	l := passingLoop()
	expectRoutesOf(t, l, "A+", "D", 5, "A+ L- D+", "A+ M+ D+")
	expectRoutesOf(t, l, "A+", "E", 7, "A+ L- D+ E+", "A+ M+ D+ E+")
	expectRoutesOf(t, l, "D-", "A", 5, "D- L+ A-", "D- M- A-")
	expectRoutesOf(t, l, "E-", "A", 6, "E- D- L+ A-", "E- D- M- A-")
	slices.Reverse(l.Links)
	expectRoutesOf(t, l, "A+", "E", 7, "A+ M+ D+ E+", "A+ L- D+ E+")
	l.Links[1], l.Links[2] = l.Links[2], l.Links[1] // those between D and the two ways: they have no influence from A
	expectRoutesOf(t, l, "A+", "E", 7, "A+ M+ D+ E+", "A+ L- D+ E+")
	expectRoutesOf(t, l, "E-", "A", 6, "E- D- L+ A-", "E- D- M- A-")
}

// The search does not go on behind section to.
func TestFindAWayThatLeadsOn(t *testing.T) {
	l := passingLoop()
	expectRoutesOf(t, l, "A+", "L", 5, "A+ L-") // A, L, M, D and E; L is passed already when it could be reached from D
	expectRoutesOf(t, l, "A+", "M", 5, "A+ M+")
	expectRoutesOf(t, line(96), "S0+", "S1", 2, "S0+ S1+")
	expectRoutesOf(t, line(96), "S50-", "S48", 3, "S50- S49- S48-")
}

func TestFindInALoop(t *testing.T) {
	l := balloon()
	expectRoutesOf(t, l, "T+", "L2", 6, "T+ R+ L1+ L2+", "T+ R+ L2-") // S is a dead end
	expectRoutesOf(t, l, "T+", "L1", 5, "T+ R+ L1+", "T+ R+ L2- L1-")
	expectRoutesOf(t, l, "T+", "S", 7, "T+ R+ L1+ S+")
	expectRoutesOf(t, l, "S-", "T", 4, "S- L1- R- T-")
	expectRoutesOf(t, l, "L1+", "T", 5, "L1+ L2+ R- T-")
	expectRoutesOf(t, ring(), "A+", "C", 3, "A+ B+ C-")
	expectRoutesOf(t, ring(), "A-", "B", 3, "A- C+ B-")
	expectRoutesOf(t, ring(), "C-", "B", 3, "C- A+ B+")
}

func TestFindNoWay(t *testing.T) {
	expectNoRouteOf(t, terminus(), "N1+", "T", 1)
	expectNoRouteOf(t, terminus(), "T-", "N1", 1)
	expectNoRouteOf(t, terminus(), "N1-", "N2", 2)
	expectNoRouteOf(t, line(9), "S5+", "S4", 4)
	expectNoRouteOf(t, line(9), "S4-", "S5", 5)
	expectNoRouteOf(t, twoTracks(), "A+", "Z", 4)
	expectNoRouteOf(t, passingLoop(), "L+", "M", 2)
	expectNoRouteOf(t, balloon(), "S+", "T", 1)
	expectNoRouteOf(t, balloon(), "L2-", "S", 4)
	expectNoRoute(t, api.Layout{Sections: line(96).Sections}, up(95), 94, 1)
}

// A route does not come back to its first section, so that all sequences are tried in vain.
func TestFindFromASectionToItself(t *testing.T) {
	expectNoRouteOf(t, terminus(), "T+", "T", 3)
	expectNoRouteOf(t, terminus(), "T-", "T", 1)
	expectNoRouteOf(t, ring(), "A+", "A", 3)
	expectNoRouteOf(t, ring(), "C+", "C", 3)
	expectNoRouteOf(t, balloon(), "T+", "T", 7)
	expectNoRouteOf(t, balloon(), "R+", "R", 6)
	expectNoRouteOf(t, passingLoop(), "A+", "A", 7)
	expectNoRouteOf(t, line(30), "S0+", "S0", 24)
	expectNoRouteOf(t, mustParse("section A 10 20000 0\nlink A A A B\n"), "A+", "A", 1)
	expectNoRouteOf(t, mustParse("section A 10 20000 0\n"), "A-", "A", 1)
}

func TestFindRoutesOfMaxSteps(t *testing.T) {
	l := line(40)
	expectRoutes(t, l, up(3), 25, 23, along(3, 23, 0))
	expectRoutes(t, l, up(3), 26, 24, along(3, 24, 0))
	expectNoRoute(t, l, up(3), 27, 24)
	expectNoRoute(t, l, up(3), 39, 24)
	expectRoutes(t, l, up(16), 39, 24, along(16, 24, 0))
	expectNoRoute(t, l, up(15), 39, 24)
	expectRoutes(t, l, down(23), 0, 24, reversed(along(0, 24, 0)))
	expectNoRoute(t, l, down(24), 0, 24)
	// The shorter one of two ways is found, the longer one, which begins with another branch, has too many steps.
	l = line(24)
	l.Points = []string{"P", "Q"}
	l.Links[0].Point, l.Links[22].Point = 0, 1
	l.Sections = append(l.Sections, api.Section{Name: "X", Length: 1, Limit: 1000, Station: -1}, api.Section{Name: "Y", Length: 1, Limit: 1000, Station: -1})
	l.Links = append(l.Links, api.Link{A: 0, AEnd: 1, B: 24, BEnd: 0, Point: 0, Pos: 1}, api.Link{A: 24, AEnd: 1, B: 23, BEnd: 0, Point: 1, Pos: 1})
	short := api.Route{Steps: []api.Step{up(0), up(24), up(23)}}
	expectRoutes(t, l, up(0), 23, 26, along(0, 24, 0), short)
	l.Links = append(l.Links, api.Link{A: 25, AEnd: 1, B: 0, BEnd: 0, Point: -1})
	expectRoutes(t, l, up(25), 23, 26, api.Route{Steps: append([]api.Step{up(25)}, short.Steps...)})
}

// routesThrough returns all routes through a ladder, from section 0 to a section of its last pair.
func routesThrough(pairs, last int) []api.Route {
	routes := []api.Route{{Steps: []api.Step{up(0)}}}
	for k := range pairs {
		var longer []api.Route
		for _, r := range routes {
			// The link to the section of the same side comes first, and that from section 0 to the first one.
			sides := [][]int{{1, 2}, {2, 1}}[(r.Steps[k].Section+1)%2*min(k, 1)]
			for _, side := range sides {
				if k < pairs-1 || side == last {
					longer = append(longer, api.Route{Steps: append(slices.Clone(r.Steps), up(2*k+side))})
				}
			}
		}
		routes = longer
	}
	return routes
}

func TestFindThroughALadder(t *testing.T) {
	for pairs := 1; pairs <= 8; pairs++ {
		for last := 1; last <= 2; last++ {
			want := routesThrough(pairs, last)
			if len(want) != max(1, 1<<(pairs-1)) {
				t.Fatalf("the test has %d routes through %d pairs", len(want), pairs)
			}
			expectRoutes(t, ladder(pairs, 0), up(0), 2*pairs-2+last, 1<<(pairs+1)-1, want...)
		}
	}
}

// A ladder of 19 pairs and one section before it need exactly MaxBudget units, and one more section one more.
func TestFindWithTheGreatestBudget(t *testing.T) {
	l := ladder(19, 2)
	expectFindError(t, l, up(39), 39, api.MaxBudget, api.ErrBudget)
	expectFindError(t, l, up(40), 40, api.MaxBudget, api.ErrNone)
	expectFindError(t, l, up(40), 40, api.MaxBudget-1, api.ErrBudget)
	expectFindError(t, l, up(0), 0, api.MaxBudget-1, api.ErrNone)
	expectFindError(t, l, up(0), 0, api.MaxBudget-2, api.ErrBudget)
	routes, units, errno := Find(l, up(40), 37, api.MaxBudget)
	if len(routes) != 1<<18 || units != api.MaxBudget || errno != api.OK {
		t.Errorf("Find: %d routes, %d units, error %d", len(routes), units, errno)
	}
	expectFindError(t, l, up(40), 37, api.MaxBudget-1, api.ErrBudget)
	expectFindError(t, ladder(30, 0), up(0), 60, api.MaxBudget, api.ErrBudget)
	if api.MaxBudget != 1<<20 {
		t.Error("the limits of the tests are others")
	}
}

// Everything that was found before the budget is used up is lost.
func TestFindWithEachBudget(t *testing.T) {
	l := passingLoop()
	for budget := 1; budget <= 6; budget++ {
		expectFindError(t, l, up(0), 4, budget, api.ErrBudget)
	}
	expectFindError(t, terminus(), up(0), 1, 1, api.ErrBudget)
	expectFindError(t, terminus(), up(0), 1, 2, api.ErrBudget)
	expectFindError(t, terminus(), down(0), 1, 1, api.ErrNone)
	expectFindError(t, line(2), up(0), 1, 1, api.ErrBudget)
	if routes, units, errno := Find(line(2), up(0), 1, 2); len(routes) != 1 || units != 2 || errno != api.OK {
		t.Errorf("Find with 2 units: %v, %d, %d", routes, units, errno)
	}
}

func TestFindErrors(t *testing.T) {
	for _, l := range invalidLayouts() {
		expectFindError(t, l, up(0), 1, 100, api.ErrArg)
		expectFindError(t, l, up(-1), 3, 0, api.ErrArg)
	}
	expectFindError(t, api.Layout{}, up(0), 0, 1, api.ErrArg)
	l := terminus()
	for _, from := range []api.Step{up(-1), up(3), down(-1), down(3), {Section: 1, Dir: -1}, {Section: 1, Dir: 2}, up(math.MinInt), up(math.MaxInt), {Dir: math.MinInt}, {Dir: math.MaxInt}} {
		expectFindError(t, l, from, 1, 100, api.ErrRange)
		expectFindError(t, l, from, -1, 1, api.ErrRange)
	}
	for _, to := range []int{-1, -2, 3, 4, 96, math.MinInt, math.MaxInt} {
		expectFindError(t, l, up(0), to, 100, api.ErrRange)
		expectFindError(t, l, up(0), to, 1, api.ErrRange)
		expectFindError(t, l, up(1), to, 100, api.ErrRange)
	}
	for _, budget := range []int{0, -1, -100, math.MinInt, api.MaxBudget + 1, api.MaxBudget + 2, math.MaxInt} {
		expectFindError(t, l, up(0), 1, budget, api.ErrRange)
		expectFindError(t, l, down(0), 1, budget, api.ErrRange)
		expectFindError(t, l, up(3), 3, budget, api.ErrRange)
	}
	// The budget comes before the routes.
	expectFindError(t, line(9), up(5), 4, 3, api.ErrBudget)
	expectFindError(t, line(9), up(5), 4, 4, api.ErrNone)
}

func TestFindEachPairOfALongLine(t *testing.T) {
	l := line(96)
	for from := range 96 {
		for to := range 96 {
			switch steps := to - from + 1; {
			case 2 <= steps && steps <= 24:
				if routes, units, errno := Find(l, up(from), to, 24); len(routes) != 1 || !equalRoutes(routes[0], along(from, steps, 0)) || units != steps || errno != api.OK {
					t.Errorf("Find from %d to %d: %s, %d, %d", from, to, describe(routes), units, errno)
				}
			default:
				expectFindError(t, l, up(from), to, 24, api.ErrNone)
			}
		}
	}
}

// The chapter's example.

func TestExampleOfFind(t *testing.T) {
	expectRoutes(t, terminus(), up(0), 2, 3, api.Route{Steps: []api.Step{up(0), up(2)}})
}

// The consequences.

func TestRoutesAreValidAndDiffer(t *testing.T) {
	random := rand.New(rand.NewSource(75))
	most := 0
	for range 400 {
		l := randomLayout(random, 2+random.Intn(16))
		all := stepsOf(l)
		from, to := all[random.Intn(len(all))], random.Intn(len(l.Sections))
		routes, units, errno := Find(l, from, to, 5000)
		if errno != api.OK {
			if len(routes) != 0 || units != 0 || errno != api.ErrNone && errno != api.ErrBudget {
				t.Errorf("Find(%s, %v, %d, 5000) = %s, %d, %d", describe(l), from, to, describe(routes), units, errno)
			}
			continue
		}
		most = max(most, len(routes))
		for i, r := range routes {
			expectCheck(t, l, r, api.OK)
			if r.Overlap != 0 || r.Steps[0] != from || r.Steps[len(r.Steps)-1].Section != to {
				t.Errorf("Find(%s, %v, %d, 5000) returns %s", describe(l), from, to, describe(r))
			}
			if slices.ContainsFunc(routes[:i], func(other api.Route) bool { return equalRoutes(r, other) }) {
				t.Errorf("Find(%s, %v, %d, 5000) returns %s twice", describe(l), from, to, describe(r))
			}
		}
	}
	if most < 8 {
		t.Errorf("no call returns more than %d routes", most)
	}
}
