package route

import (
	"cmp"
	"math/rand"
	"slices"
	"testing"

	"railplan/api"
	"railplan/layout"
)

// The models look at the links of a layout themselves, and follow the chapter's sentences without regard to their cost.

// linkModel returns the number of the link over which a train comes from one step to another one, or -1.
func linkModel(l api.Layout, from, to api.Step) int {
	type end struct{ section, side int }
	exit, entry := end{from.Section, api.EndB}, end{to.Section, api.EndA}
	if from.Dir == api.Down {
		exit.side = api.EndA
	}
	if to.Dir == api.Down {
		entry.side = api.EndB
	}
	for number, link := range l.Links {
		a, b := end{link.A, link.AEnd}, end{link.B, link.BEnd}
		if a == exit && b == entry || a == entry && b == exit {
			return number
		}
	}
	return -1
}

func isStepModel(l api.Layout, s api.Step) bool {
	for section := range l.Sections {
		if s == (api.Step{Section: section, Dir: api.Up}) || s == (api.Step{Section: section, Dir: api.Down}) {
			return true
		}
	}
	return false
}

func checkModel(l api.Layout, r api.Route) api.Errno {
	if layout.Check(l) != api.OK {
		return api.ErrArg
	}
	if len(r.Steps) > 24 || r.Overlap > 2 {
		return api.ErrFull
	}
	if r.Overlap < 0 || len(r.Steps) < 2+r.Overlap {
		return api.ErrRange
	}
	for _, step := range r.Steps {
		if !isStepModel(l, step) {
			return api.ErrRange
		}
	}
	for i := range r.Steps {
		for j := range r.Steps {
			if i != j && r.Steps[i].Section == r.Steps[j].Section {
				return api.ErrDuplicate
			}
		}
	}
	for i := 1; i < len(r.Steps); i++ {
		if linkModel(l, r.Steps[i-1], r.Steps[i]) < 0 {
			return api.ErrLink
		}
	}
	return api.OK
}

// cellsModel returns the cells of a valid route, also if there are too many.
func cellsModel(l api.Layout, r api.Route) []api.Cell {
	var cells []api.Cell
	for i := 0; i < len(r.Steps)-r.Overlap; i++ {
		section := l.Sections[r.Steps[i].Section]
		for range section.Length {
			if r.Steps[i].Dir == api.Up {
				cells = append(cells, api.Cell{Limit: section.Limit, Grade: section.Grade})
			} else {
				cells = append(cells, api.Cell{Limit: section.Limit, Grade: 0 - section.Grade})
			}
		}
	}
	return cells
}

// resourcesModel asks of each resource whether it belongs to a valid route.
func resourcesModel(l api.Layout, r api.Route) []int {
	var resources []int
	for resource := range len(l.Sections) + len(l.Points) {
		if belongsModel(l, r, resource) {
			resources = append(resources, resource)
		}
	}
	return resources
}

func belongsModel(l api.Layout, r api.Route, resource int) bool {
	for i, step := range r.Steps {
		if step.Section == resource {
			return true
		}
		if i > 0 && l.Links[linkModel(l, r.Steps[i-1], step)].Point == resource-len(l.Sections) && resource >= len(l.Sections) {
			return true
		}
	}
	return false
}

func clashesModel(l api.Layout, a, b api.Route) bool {
	for _, resource := range resourcesModel(l, a) {
		if slices.Contains(resourcesModel(l, b), resource) {
			return true
		}
	}
	return false
}

// pathsModel tries every sequence of the steps of a layout that starts with a given one and is not longer than the list of its sections, or MaxSteps, and returns those that pass no section twice and whose steps are linked.
func pathsModel(l api.Layout, from api.Step) [][]api.Step {
	all := stepsOf(l)
	sequences, paths := [][]api.Step{{from}}, [][]api.Step{{from}}
	for range min(len(l.Sections), api.MaxSteps) - 1 {
		var longer [][]api.Step
		for _, sequence := range sequences {
			for _, step := range all {
				longer = append(longer, append(slices.Clone(sequence), step))
			}
		}
		sequences = longer
		for _, sequence := range sequences {
			if checkModel(l, api.Route{Steps: sequence}) == api.OK {
				paths = append(paths, sequence)
			}
		}
	}
	return paths
}

// findModel returns the routes and the number of units of Find, given the paths from its first step.
func findModel(l api.Layout, paths [][]api.Step, to int) ([]api.Route, int) {
	var routes []api.Route
	units := 0
	for _, path := range paths {
		last := len(path) - 1
		isTo := func(s api.Step) bool { return s.Section == to }
		if last < 1 || !slices.ContainsFunc(path[1:last], isTo) {
			units++ // the search does not go on behind section to
		}
		if last >= 1 && isTo(path[last]) {
			routes = append(routes, api.Route{Steps: path})
		}
	}
	slices.SortFunc(routes, func(a, b api.Route) int { return compareInOrderOfHops(l, a.Steps, b.Steps) })
	return routes, units
}

// compareInOrderOfHops compares two sequences where they part, by the numbers of the links over which they go on.
func compareInOrderOfHops(l api.Layout, a, b []api.Step) int {
	for i := range min(len(a), len(b)) {
		if a[i] != b[i] {
			return cmp.Compare(linkModel(l, a[i-1], a[i]), linkModel(l, b[i-1], b[i]))
		}
	}
	return 0
}

// expectAsModel compares all functions of a route with the models, and returns the error of the route.
func expectAsModel(t *testing.T, l api.Layout, r api.Route) api.Errno {
	t.Helper()
	want := checkModel(l, r)
	if want != api.OK {
		expectInvalid(t, l, r, want)
		return want
	}
	expectValid(t, l, r)
	expectCells(t, l, r, len(cellsModel(l, api.Route{Steps: r.Steps[:1]})), cellsModel(l, r))
	expectResources(t, l, r, resourcesModel(l, r)...)
	return api.OK
}

func TestRandomRoutesAsInTheModel(t *testing.T) {
	random := rand.New(rand.NewSource(71))
	counts := make(map[api.Errno]int)
	for range 1000 {
		l := randomLayout(random, 1+random.Intn(7))
		for range 20 {
			counts[expectAsModel(t, l, randomWalk(random, l))]++
		}
	}
	for _, errno := range []api.Errno{api.OK, api.ErrFull, api.ErrRange, api.ErrDuplicate, api.ErrLink} {
		if counts[errno] < 100 {
			t.Errorf("%d routes with error %d", counts[errno], errno)
		}
	}
}

// All routes of up to three steps in small layouts, some of which are no steps of the layout.
func TestAllShortRoutesAsInTheModel(t *testing.T) {
	for _, l := range []api.Layout{terminus(), ring(), mustParse("section A 10 20000 1\nlink A B A A"), mustParse("point P\nsection A 10 20000 1\nsection B 10 20000 1\nlink A B B A P 0\nlink A B B B P 1\nlink B B A A P 0\n")} {
		all := append(stepsOf(l), api.Step{Section: len(l.Sections)}, api.Step{Section: -1}, api.Step{Dir: 2}, api.Step{Dir: -1})
		sequences := [][]api.Step{nil}
		for range 4 {
			var longer [][]api.Step
			for _, sequence := range sequences {
				for overlap := -1; overlap <= 3; overlap++ {
					expectAsModel(t, l, api.Route{Steps: sequence, Overlap: overlap})
				}
				for _, step := range all {
					longer = append(longer, append(slices.Clone(sequence), step))
				}
			}
			sequences = longer
		}
	}
}

func TestRandomClashesAsInTheModel(t *testing.T) {
	random := rand.New(rand.NewSource(72))
	counts := make(map[bool]int)
	for range 3000 {
		l := randomLayout(random, 4+random.Intn(12))
		a, b := randomRoute(random, l), randomRoute(random, l)
		errno := checkModel(l, a)
		if errno == api.OK {
			errno = checkModel(l, b)
		}
		if errno != api.OK {
			expectClashesError(t, l, a, b, errno)
			continue
		}
		clash := clashesModel(l, a, b)
		counts[clash]++
		expectClashes(t, l, a, b, clash)
	}
	if counts[true] < 100 || counts[false] < 100 {
		t.Errorf("%d pairs of routes clash, %d do not", counts[true], counts[false])
	}
}

// expectFindAsModel compares Find from all steps to all sections with the model, with each budget up to the units that are needed and one more; it returns the greatest number of routes.
func expectFindAsModel(t *testing.T, l api.Layout) int {
	t.Helper()
	most := 0
	for _, from := range stepsOf(l) {
		paths := pathsModel(l, from)
		for to := range l.Sections {
			routes, units := findModel(l, paths, to)
			most = max(most, len(routes))
			if len(routes) == 0 {
				expectNoRoute(t, l, from, to, units)
			} else {
				expectRoutes(t, l, from, to, units, routes...)
			}
			for budget := 1; budget < units; budget++ {
				expectFindError(t, l, from, to, budget, api.ErrBudget)
			}
		}
	}
	return most
}

func TestFindAsInTheModel(t *testing.T) {
	random := rand.New(rand.NewSource(73))
	counts := make(map[int]int)
	for _, q := range []struct{ sections, layouts int }{{1, 20}, {2, 100}, {3, 400}, {4, 300}, {5, 12}} {
		for range q.layouts {
			counts[expectFindAsModel(t, randomLayout(random, q.sections))]++
		}
	}
	for count := range 4 {
		if counts[count] == 0 {
			t.Errorf("no layout has %d routes from a step to a section", count)
		}
	}
	for _, l := range []api.Layout{terminus(), passingLoop(), balloon(), ring(), line(5), ladder(2, 0)} {
		expectFindAsModel(t, l)
	}
}
