package route

import (
	"math/rand"
	"runtime"
	"slices"
	"testing"
	"unsafe"

	"railplan/api"
)

// withSpare returns a list with filled places behind it.
func withSpare[T any](list []T, spare T) []T {
	return append(slices.Clone(list), spare, spare, spare)[:len(list)]
}

func whole[T any](list []T) []T {
	return list[:cap(list)]
}

// arguments are what a function of this package is called with, with filled places behind the lists.
type arguments struct {
	layout api.Layout
	routes []api.Route
}

func spacious(l api.Layout, routes ...api.Route) arguments {
	a := arguments{layout: api.Layout{
		Stations: withSpare(l.Stations, "spare"),
		Points:   withSpare(l.Points, "spare"),
		Sections: withSpare(l.Sections, api.Section{Name: "spare", Length: -7, Limit: -7, Grade: -7, Station: -7}),
		Links:    withSpare(l.Links, api.Link{A: -7, AEnd: -7, B: -7, BEnd: -7, Point: -7, Pos: -7}),
	}}
	for _, r := range routes {
		a.routes = append(a.routes, api.Route{Steps: withSpare(r.Steps, up(-7)), Overlap: r.Overlap})
	}
	return a
}

// withSparePlaces returns a copy of the arguments in which the spare places are elements.
func (a arguments) withSparePlaces() arguments {
	b := arguments{layout: cloneLayout(api.Layout{
		Stations: whole(a.layout.Stations), Points: whole(a.layout.Points), Sections: whole(a.layout.Sections), Links: whole(a.layout.Links),
	})}
	for _, r := range a.routes {
		b.routes = append(b.routes, api.Route{Steps: slices.Clone(whole(r.Steps)), Overlap: r.Overlap})
	}
	return b
}

func (a arguments) equal(b arguments) bool {
	return slices.Equal(a.layout.Stations, b.layout.Stations) && slices.Equal(a.layout.Points, b.layout.Points) &&
		slices.Equal(a.layout.Sections, b.layout.Sections) && slices.Equal(a.layout.Links, b.layout.Links) &&
		slices.EqualFunc(a.routes, b.routes, equalRoutes)
}

// results are those of all functions.
type results struct {
	errnos    [5]api.Errno
	cells     []api.Cell
	first     int
	resources []int
	clash     bool
	routes    []api.Route
	units     int
}

func (a arguments) call() results {
	var r results
	l, first, second := a.layout, a.routes[0], a.routes[1]
	r.errnos[0] = Check(l, first)
	r.cells, r.first, r.errnos[1] = Cells(l, first)
	r.resources, r.errnos[2] = Resources(l, first)
	r.clash, r.errnos[3] = Clashes(l, first, second)
	var from api.Step
	if len(second.Steps) > 0 {
		from = second.Steps[0]
	}
	r.routes, r.units, r.errnos[4] = Find(l, from, len(l.Sections)/2, 1000)
	return r
}

func (r results) clone() results {
	r.cells, r.resources, r.routes = slices.Clone(r.cells), slices.Clone(r.resources), slices.Clone(r.routes)
	for i := range r.routes {
		r.routes[i] = cloneRoute(r.routes[i])
	}
	return r
}

func (r results) equal(s results) bool {
	return r.errnos == s.errnos && slices.Equal(r.cells, s.cells) && r.first == s.first && slices.Equal(r.resources, s.resources) &&
		r.clash == s.clash && slices.EqualFunc(r.routes, s.routes, equalRoutes) && r.units == s.units
}

// overwrite fills the results and the places behind them.
func (r results) overwrite() {
	clear(whole(r.cells))
	clear(whole(r.resources))
	for _, found := range r.routes {
		clear(whole(found.Steps))
	}
	clear(whole(r.routes))
}

// visitArguments calls a function with layouts and routes, many of which are valid.
func visitArguments(visit func(l api.Layout, a, b api.Route)) {
	for _, l := range invalidLayouts() {
		visit(l, along(0, 2, 0), along(0, 25, 0))
	}
	visit(line(30), along(0, 24, 2), along(6, 24, 0))
	visit(line(30), along(0, 25, 0), along(0, 1, 0))
	visit(withLengths(slices.Repeat([]int{400}, 24)...), along(0, 24, 0), along(0, 12, 2))
	visit(ladder(5, 3), along(11, 2, 0), along(11, 3, 0))
	visit(passingLoop(), routeOf(passingLoop(), "A+ L- | D+"), routeOf(passingLoop(), "A+ M+"))
	random := rand.New(rand.NewSource(76))
	for range 2000 {
		l := randomLayout(random, 1+random.Intn(8))
		visit(l, randomWalk(random, l), randomWalk(random, l))
	}
}

// The places behind the arguments have no influence, and neither they nor the arguments are changed, also if the results are overwritten.
func TestArgumentsAreLeftAlone(t *testing.T) {
	visitArguments(func(l api.Layout, a, b api.Route) {
		want := arguments{l, []api.Route{a, b}}.call()
		argument := spacious(l, a, b)
		before := argument.withSparePlaces()
		got := argument.call()
		if !got.equal(want) {
			t.Errorf("the results for %s, %s, %s are %s; want %s", describe(l), describe(a), describe(b), describe(got), describe(want))
		}
		got.overwrite()
		if !argument.withSparePlaces().equal(before) {
			t.Errorf("the arguments %s, %s, %s or the places behind them are changed", describe(l), describe(a), describe(b))
		}
	})
}

// Results are not changed by what the caller does with the arguments, and with other results.
func TestResultsShareNoMemory(t *testing.T) {
	visitArguments(func(l api.Layout, a, b api.Route) {
		argument := spacious(l, a, b)
		first := argument.call()
		want := first.clone()
		argument.call().overwrite()
		clear(whole(argument.layout.Sections))
		clear(whole(argument.layout.Links))
		for _, r := range argument.routes {
			clear(whole(r.Steps))
		}
		if !first.equal(want) {
			t.Errorf("the results %s have become %s", describe(want), describe(first))
		}
		if again := spacious(l, a, b).call(); !again.equal(want) {
			t.Errorf("the results for %s, %s, %s are %s; want %s", describe(l), describe(a), describe(b), describe(again), describe(want))
		}
	})
}

// memory is the first and the last address of a list of steps with its spare places.
type memory struct{ first, last uintptr }

// The routes are kept alive until they are compared, because the memory of a result that nobody needs may become that of a later one.
func TestRoutesShareNoMemoryWithEachOther(t *testing.T) {
	var calls [][]api.Route
	var memories []memory
	for _, l := range []api.Layout{passingLoop(), balloon(), ladder(9, 0), ladder(9, 0)} {
		for to := range l.Sections {
			routes, _, _ := Find(l, up(0), to, api.MaxBudget)
			calls = append(calls, routes)
			for _, r := range routes {
				first := uintptr(unsafe.Pointer(unsafe.SliceData(r.Steps)))
				memories = append(memories, memory{first, first + uintptr(cap(r.Steps))*unsafe.Sizeof(api.Step{}) - 1})
			}
		}
	}
	slices.SortFunc(memories, func(a, b memory) int {
		return slices.Compare([]uintptr{a.first, a.last}, []uintptr{b.first, b.last})
	})
	for i := 1; i < len(memories); i++ {
		if memories[i].first <= memories[i-1].last {
			t.Fatalf("two of %d routes share memory", len(memories))
		}
	}
	if len(memories) < 1000 {
		t.Errorf("only %d routes", len(memories))
	}
	runtime.KeepAlive(calls)
}

// Each route of a result can be overwritten and extended without a change of the others.
func TestOverwritingARouteLeavesTheOthers(t *testing.T) {
	l := ladder(7, 0)
	for to := 13; to <= 14; to++ {
		for overwritten := range 64 {
			routes, _, errno := Find(l, up(0), to, 300)
			if len(routes) != 64 || errno != api.OK {
				t.Fatalf("Find: %d routes, error %d", len(routes), errno)
			}
			want := routesThrough(7, to-12)
			clear(whole(routes[overwritten].Steps))
			want[overwritten].Steps = make([]api.Step, 8)
			if !slices.EqualFunc(routes, want, equalRoutes) {
				t.Errorf("overwriting route %d has changed others", overwritten)
			}
		}
	}
}

// A call that returned an error, or another result, leaves nothing behind for the next one.
func TestResultsDependOnTheArgumentsOnly(t *testing.T) {
	for range 3 {
		expectFindError(t, ladder(9, 0), up(0), 17, 500, api.ErrBudget)
		expectRoutesOf(t, terminus(), "T+", "N2", 3, "T+ N2+")
		expectFindError(t, terminus(), up(1), 0, 10, api.ErrNone)
		expectInvalid(t, terminus(), along(0, 25, 0), api.ErrFull)
		expectResources(t, terminus(), along(0, 2, 0), 0, 1, 3)
		expectResources(t, passingLoop(), routeOf(passingLoop(), "A+ M+"), 0, 2, 5)
		expectCellsError(t, withLengths(slices.Repeat([]int{400}, 24)...), along(0, 24, 0), api.ErrFull)
		expectCells(t, line(2), along(0, 2, 0), 10, cells(stretch{10, 20000, -4}, stretch{11, 20001, -3}))
		expectClashes(t, passingLoop(), routeOf(passingLoop(), "A+ L-"), routeOf(passingLoop(), "M+ D+"), false)
	}
}
