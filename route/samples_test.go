package route

import (
	"fmt"
	"math/rand"
	"slices"
	"strconv"
	"strings"
	"testing"

	"railplan/api"
	"railplan/layout"
)

// mustParse returns the layout of a text.
func mustParse(text string) api.Layout {
	l, line, errno := layout.Parse(text)
	if errno != api.OK {
		panic(fmt.Sprintf("line %d: error %d in %s", line, errno, text))
	}
	return l
}

// terminus is the layout of chapter 4.
func terminus() api.Layout {
	return mustParse(`
station North
point W
section T 40 33000 0
section N1 20 20000 0 at North
section N2 20 20000 0 at North
link T B N1 A W 0
link T B N2 A W 1
`)
}

// passingLoop has two ways, L and M, from A to D, with a point at each end of them; L is laid from right to left, and D leads on to E.
func passingLoop() api.Layout {
	return mustParse(`
point west
point east
section A 30 30000 5
section L 20 20000 -7
section M 21 15000 8
section D 31 30000 0
section E 32 25000 -3
link A B L B west 0
link A B M A west 1
link L A D A east 1
link M B D A east 0
link D B E A
`)
}

// balloon leads from T over R to a loop, which leads back to R and T; the loop has a siding S, a dead end.
func balloon() api.Layout {
	return mustParse(`
point P
point Q
section T 10 20000 0
section R 11 20000 0
section L1 12 20000 0
section L2 13 20000 0
section S 14 20000 0
link T B R A
link R B L1 A P 0
link R B L2 B P 1
link L1 B L2 A Q 0
link L1 B S A Q 1
`)
}

// ring is a circle of three sections; the third one is laid the other way round.
func ring() api.Layout {
	return mustParse(`
section A 10 20000 0
section B 10 20000 0
section C 10 20000 0
link A B B A
link B B C B
link C A A A
`)
}

// twoTracks are two tracks side by side, A to D and W to Z, that have nothing in common but the points: P leads from B to C, from X to Y and from Y to Z, Q from A to B.
func twoTracks() api.Layout {
	return mustParse(`
point P
point Q
section A 10 20000 0
section B 10 20000 0
section C 10 20000 0
section D 10 20000 0
section W 10 20000 0
section X 10 20000 0
section Y 10 20000 0
section Z 10 20000 0
link A B B A Q 0
link B B C A P 0
link C B D A
link W B X A
link X B Y A P 0
link Y B Z A P 1
`)
}

// line returns sections S0, S1, .. one after another, without points.
func line(count int) api.Layout {
	var l api.Layout
	for i := range count {
		l.Sections = append(l.Sections, api.Section{Name: "S" + strconv.Itoa(i), Length: 10 + i, Limit: 20000 + i, Grade: i%9 - 4, Station: -1})
		if i > 0 {
			l.Links = append(l.Links, api.Link{A: i - 1, AEnd: api.EndB, B: i, BEnd: api.EndA, Point: -1})
		}
	}
	return l
}

// ladder returns section 0 and, one after another, pairs of sections: section 0 leads to both sections of pair 0, and each section of a pair to both of the next one. Pair k has the sections 2 * k + 1 and 2 * k + 2. The remaining sections, as many as row says, lead one to the next and then to section 0.
func ladder(pairs, row int) api.Layout {
	l := api.Layout{Sections: line(1 + 2*pairs + row).Sections}
	join := func(a, b, point, pos int) {
		l.Links = append(l.Links, api.Link{A: a, AEnd: api.EndB, B: b, BEnd: api.EndA, Point: point, Pos: pos})
	}
	for k := range pairs {
		l.Points = append(l.Points, "P"+strconv.Itoa(k))
		first, second := 2*k+1, 2*k+2
		join(max(first-2, 0), first, k, 0)
		join(max(first-2, 0), second, k, 1)
		if k > 0 {
			join(first-1, second, k, 0)
			join(first-1, first, k, 1)
		}
	}
	for i := len(l.Sections) - row; i < len(l.Sections); i++ {
		next := i + 1
		if next == len(l.Sections) {
			next = 0
		}
		join(i, next, -1, 0)
	}
	return l
}

func up(section int) api.Step   { return api.Step{Section: section, Dir: api.Up} }
func down(section int) api.Step { return api.Step{Section: section, Dir: api.Down} }

// steps returns the steps of a text as "T+ N1-": up through T, down through N1.
func steps(l api.Layout, text string) []api.Step {
	var list []api.Step
	for _, word := range strings.Fields(text) {
		name, dir := word[:len(word)-1], api.Up
		if word[len(word)-1] == '-' {
			dir = api.Down
		}
		section := slices.IndexFunc(l.Sections, func(s api.Section) bool { return s.Name == name })
		if section < 0 {
			panic("no section " + name)
		}
		list = append(list, api.Step{Section: section, Dir: dir})
	}
	return list
}

// routeOf returns the route of a text as "T+ N1- | X+": the steps behind the bar are the overlap.
func routeOf(l api.Layout, text string) api.Route {
	travelled, overlap, _ := strings.Cut(text, "|")
	behind := steps(l, overlap)
	return api.Route{Steps: append(steps(l, travelled), behind...), Overlap: len(behind)}
}

// along returns the route upwards through the sections from first on.
func along(first, count, overlap int) api.Route {
	r := api.Route{Overlap: overlap}
	for i := range count {
		r.Steps = append(r.Steps, up(first+i))
	}
	return r
}

// reversed returns the route in the other direction, without overlap.
func reversed(r api.Route) api.Route {
	var back []api.Step
	for _, step := range slices.Backward(r.Steps) {
		back = append(back, layout.Reverse(step))
	}
	return api.Route{Steps: back}
}

func cloneRoute(r api.Route) api.Route {
	return api.Route{Steps: slices.Clone(r.Steps), Overlap: r.Overlap}
}

func cloneLayout(l api.Layout) api.Layout {
	return api.Layout{Stations: slices.Clone(l.Stations), Points: slices.Clone(l.Points), Sections: slices.Clone(l.Sections), Links: slices.Clone(l.Links)}
}

func equalRoutes(a, b api.Route) bool {
	return slices.Equal(a.Steps, b.Steps) && a.Overlap == b.Overlap
}

// describe shortens what is long.
func describe(value any) string {
	text := fmt.Sprintf("%+v", value)
	if len(text) > 600 {
		return text[:600] + "..."
	}
	return text
}

func expectCheck(t *testing.T, l api.Layout, r api.Route, want api.Errno) {
	t.Helper()
	if got := Check(l, r); got != want {
		t.Errorf("Check(%s, %s) = %d; want %d", describe(l), describe(r), got, want)
	}
}

// expectInvalid checks the error of each function that has a route as an argument, and that its other results are zero.
func expectInvalid(t *testing.T, l api.Layout, r api.Route, want api.Errno) {
	t.Helper()
	expectCheck(t, l, r, want)
	expectCellsError(t, l, r, want)
	expectResourcesError(t, l, r, want)
	expectClashesError(t, l, r, r, want)
}

// expectValid checks that a route is accepted, also by the functions whose results are not of interest here.
func expectValid(t *testing.T, l api.Layout, r api.Route) {
	t.Helper()
	expectCheck(t, l, r, api.OK)
	if cells, first, errno := Cells(l, r); len(cells) < 2 || first < 1 || errno != api.OK {
		t.Errorf("Cells(%s, %s) = %s, %d, %d; want no error", describe(l), describe(r), describe(cells), first, errno)
	}
	if resources, errno := Resources(l, r); len(resources) < len(r.Steps) || errno != api.OK {
		t.Errorf("Resources(%s, %s) = %v, %d; want no error", describe(l), describe(r), resources, errno)
	}
	expectClashes(t, l, r, r, true)
}

func expectCellsError(t *testing.T, l api.Layout, r api.Route, want api.Errno) {
	t.Helper()
	if cells, first, errno := Cells(l, r); len(cells) != 0 || first != 0 || errno != want {
		t.Errorf("Cells(%s, %s) = %s, %d, %d; want error %d", describe(l), describe(r), describe(cells), first, errno, want)
	}
}

func expectResources(t *testing.T, l api.Layout, r api.Route, want ...int) {
	t.Helper()
	if got, errno := Resources(l, r); !slices.Equal(got, want) || errno != api.OK {
		t.Errorf("Resources(%s, %s) = %v, %d; want %v", describe(l), describe(r), got, errno, want)
	}
}

func expectResourcesError(t *testing.T, l api.Layout, r api.Route, want api.Errno) {
	t.Helper()
	if resources, errno := Resources(l, r); len(resources) != 0 || errno != want {
		t.Errorf("Resources(%s, %s) = %v, %d; want error %d", describe(l), describe(r), resources, errno, want)
	}
}

// expectClashes checks the result for both orders of the routes.
func expectClashes(t *testing.T, l api.Layout, a, b api.Route, want bool) {
	t.Helper()
	if got, errno := Clashes(l, a, b); got != want || errno != api.OK {
		t.Errorf("Clashes(%s, %s, %s) = %t, %d; want %t", describe(l), describe(a), describe(b), got, errno, want)
	}
	if got, errno := Clashes(l, b, a); got != want || errno != api.OK {
		t.Errorf("Clashes(%s, %s, %s) = %t, %d; want %t", describe(l), describe(b), describe(a), got, errno, want)
	}
}

func expectClashesError(t *testing.T, l api.Layout, a, b api.Route, want api.Errno) {
	t.Helper()
	if clash, errno := Clashes(l, a, b); clash || errno != want {
		t.Errorf("Clashes(%s, %s, %s) = %t, %d; want error %d", describe(l), describe(a), describe(b), clash, errno, want)
	}
}

// expectRoutes checks a result of Find, its exact number of units, and every budget near it.
func expectRoutes(t *testing.T, l api.Layout, from api.Step, to, units int, want ...api.Route) {
	t.Helper()
	for _, budget := range []int{units, units + 1, units + 2, 2 * units, api.MaxBudget - 1, api.MaxBudget} {
		if budget > api.MaxBudget {
			continue
		}
		got, used, errno := Find(l, from, to, budget)
		if !slices.EqualFunc(got, want, equalRoutes) || used != units || errno != api.OK {
			t.Errorf("Find(%s, %v, %d, %d) = %s, %d, %d; want %s, %d", describe(l), from, to, budget, describe(got), used, errno, describe(want), units)
		}
	}
	expectBudgetErrorBelow(t, l, from, to, units)
}

// expectNoRoute checks that there is no route, and that so many units are needed to know it.
func expectNoRoute(t *testing.T, l api.Layout, from api.Step, to, units int) {
	t.Helper()
	for _, budget := range []int{units, units + 1, api.MaxBudget} {
		expectFindError(t, l, from, to, budget, api.ErrNone)
	}
	expectBudgetErrorBelow(t, l, from, to, units)
}

// expectBudgetErrorBelow checks budgets that are too small, of which there is none if one unit suffices.
func expectBudgetErrorBelow(t *testing.T, l api.Layout, from api.Step, to, units int) {
	t.Helper()
	for _, budget := range []int{1, units / 2, units - 2, units - 1} {
		if 1 <= budget && budget < units {
			expectFindError(t, l, from, to, budget, api.ErrBudget)
		}
	}
}

func expectFindError(t *testing.T, l api.Layout, from api.Step, to, budget int, want api.Errno) {
	t.Helper()
	if routes, units, errno := Find(l, from, to, budget); len(routes) != 0 || units != 0 || errno != want {
		t.Errorf("Find(%s, %v, %d, %d) = %s, %d, %d; want error %d", describe(l), from, to, budget, describe(routes), units, errno, want)
	}
}

// invalidLayouts returns a layout for each error of layout.Check.
func invalidLayouts() map[api.Errno]api.Layout {
	layouts := make(map[api.Errno]api.Layout)
	add := func(errno api.Errno, fault func(l *api.Layout)) {
		l := terminus()
		fault(&l)
		layouts[errno] = l
	}
	add(api.ErrFull, func(l *api.Layout) { l.Stations = make([]string, api.MaxStations+1) })
	add(api.ErrArg, func(l *api.Layout) { l.Links[1] = api.Link{A: 1, AEnd: 1, B: 1, BEnd: 1, Point: -1} })
	add(api.ErrName, func(l *api.Layout) { l.Points[0] = "9" })
	add(api.ErrDuplicate, func(l *api.Layout) { l.Sections[2].Name = "N1" })
	add(api.ErrRange, func(l *api.Layout) { l.Sections[2].Grade = 41 })
	add(api.ErrLink, func(l *api.Layout) { l.Links[1].Pos = 0 })
	return layouts
}

// randomLayout returns a valid layout of a few sections, most of whose ends are joined to others.
func randomLayout(random *rand.Rand, count int) api.Layout {
	l := api.Layout{Sections: line(count).Sections}
	for i := range random.Intn(4) {
		l.Points = append(l.Points, "P"+strconv.Itoa(i))
	}
	// Most links are rejected, because their ends are taken.
	for range 1 + random.Intn(30*count) {
		link := api.Link{A: random.Intn(count), AEnd: random.Intn(2), B: random.Intn(count), BEnd: random.Intn(2), Point: -1}
		if len(l.Points) > 0 && random.Intn(4) > 0 {
			link.Point, link.Pos = random.Intn(len(l.Points)), random.Intn(2)
		}
		longer := cloneLayout(l)
		longer.Links = append(longer.Links, link)
		if layout.Check(longer) == api.OK {
			l = longer
		}
	}
	return l
}

// stepsOf returns the steps of a layout.
func stepsOf(l api.Layout) []api.Step {
	var list []api.Step
	for section := range l.Sections {
		list = append(list, up(section), down(section))
	}
	return list
}

// randomWalk returns a route of linked steps, which may pass a section twice, and may lead beyond a dead end.
func randomWalk(random *rand.Rand, l api.Layout) api.Route {
	all := stepsOf(l)
	walk := []api.Step{all[random.Intn(len(all))]}
	for range random.Intn(7) {
		hops := layout.Hops(l, walk[len(walk)-1])
		if len(hops) == 0 || random.Intn(20) == 0 {
			walk = append(walk, all[random.Intn(len(all))])
			continue
		}
		walk = append(walk, hops[random.Intn(len(hops))].To)
	}
	return api.Route{Steps: walk, Overlap: []int{0, 0, 0, 0, 1, 1, 2, -1, 3}[random.Intn(9)]}
}

// randomRoute returns a random walk that is valid, unless many tries fail.
func randomRoute(random *rand.Rand, l api.Layout) api.Route {
	r := randomWalk(random, l)
	for range 20 {
		if checkModel(l, r) == api.OK {
			break
		}
		r = randomWalk(random, l)
	}
	return r
}

func TestSamplesAreValid(t *testing.T) {
	for _, l := range []api.Layout{terminus(), passingLoop(), balloon(), ring(), twoTracks(), line(1), line(api.MaxSections), ladder(0, 0), ladder(1, 0), ladder(2, 2), ladder(22, 3)} {
		if errno := layout.Check(l); errno != api.OK {
			t.Errorf("error %d of %s", errno, describe(l))
		}
	}
	layouts := invalidLayouts()
	for _, want := range []api.Errno{api.ErrFull, api.ErrArg, api.ErrName, api.ErrDuplicate, api.ErrRange, api.ErrLink} {
		if l, listed := layouts[want]; !listed || layout.Check(l) != want {
			t.Errorf("no layout with error %d", want)
		}
	}
}
