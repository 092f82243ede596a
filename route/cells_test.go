package route

import (
	"math/rand"
	"slices"
	"testing"

	"railplan/api"
)

// Promise 7.2.

func expectCells(t *testing.T, l api.Layout, r api.Route, first int, want []api.Cell) {
	t.Helper()
	if got, number, errno := Cells(l, r); !slices.Equal(got, want) || number != first || errno != api.OK {
		t.Errorf("Cells(%s, %s) = %s, %d, %d; want %s, %d", describe(l), describe(r), describe(got), number, errno, describe(want), first)
	}
}

// stretch is a number of equal cells.
type stretch struct{ count, limit, grade int }

func cells(stretches ...stretch) []api.Cell {
	var list []api.Cell
	for _, s := range stretches {
		for range s.count {
			list = append(list, api.Cell{Limit: s.limit, Grade: s.grade})
		}
	}
	return list
}

func TestCells(t *testing.T) {
	l := passingLoop()
	for _, q := range []struct {
		text  string
		first int
		want  []api.Cell
	}{
		{"A+ L- D+ E+", 30, cells(stretch{30, 30000, 5}, stretch{20, 20000, 7}, stretch{31, 30000, 0}, stretch{32, 25000, -3})},
		{"E- D- L+ A-", 32, cells(stretch{32, 25000, 3}, stretch{31, 30000, 0}, stretch{20, 20000, -7}, stretch{30, 30000, -5})},
		{"A+ M+ D+", 30, cells(stretch{30, 30000, 5}, stretch{21, 15000, 8}, stretch{31, 30000, 0})},
		{"D- M- A-", 31, cells(stretch{31, 30000, 0}, stretch{21, 15000, -8}, stretch{30, 30000, -5})},
		{"M+ D+", 21, cells(stretch{21, 15000, 8}, stretch{31, 30000, 0})},
		{"L- D+", 20, cells(stretch{20, 20000, 7}, stretch{31, 30000, 0})},
	} {
		expectCells(t, l, routeOf(l, q.text), q.first, q.want)
	}
}

// The overlap is not travelled.
func TestCellsOfRoutesWithAnOverlap(t *testing.T) {
	l := passingLoop()
	two := cells(stretch{30, 30000, 5}, stretch{20, 20000, 7})
	three := cells(stretch{30, 30000, 5}, stretch{20, 20000, 7}, stretch{31, 30000, 0})
	expectCells(t, l, routeOf(l, "A+ L-"), 30, two)
	expectCells(t, l, routeOf(l, "A+ L- | D+"), 30, two)
	expectCells(t, l, routeOf(l, "A+ L- | D+ E+"), 30, two)
	expectCells(t, l, routeOf(l, "A+ L- D+"), 30, three)
	expectCells(t, l, routeOf(l, "A+ L- D+ | E+"), 30, three)
	expectCells(t, l, routeOf(l, "E- D- | L+ A-"), 32, cells(stretch{32, 25000, 3}, stretch{31, 30000, 0}))
}

// pair returns two sections, one after the other, of which the first is as given.
func pair(length, limit, grade int) api.Layout {
	l := line(2)
	l.Sections[0].Length, l.Sections[0].Limit, l.Sections[0].Grade = length, limit, grade
	l.Sections[1] = api.Section{Name: "X", Length: 1, Limit: 77777, Grade: 0, Station: -1}
	return l
}

func TestCellsOfEachGrade(t *testing.T) {
	for grade := -40; grade <= 40; grade++ {
		l := pair(3, 12345, grade)
		expectCells(t, l, along(0, 2, 0), 3, cells(stretch{3, 12345, grade}, stretch{1, 77777, 0}))
		expectCells(t, l, reversed(along(0, 2, 0)), 1, cells(stretch{1, 77777, 0}, stretch{3, 12345, -grade}))
	}
}

func TestCellsOfEachLimit(t *testing.T) {
	for _, limit := range []int{1000, 1001, 33000, 99999, 100000} {
		expectCells(t, pair(1, limit, 40), along(0, 2, 0), 1, cells(stretch{1, limit, 40}, stretch{1, 77777, 0}))
	}
}

func TestCellsOfEachLength(t *testing.T) {
	for length := 1; length <= api.MaxLength; length++ {
		l := pair(length, 50000, 1)
		expectCells(t, l, along(0, 2, 0), length, cells(stretch{length, 50000, 1}, stretch{1, 77777, 0}))
		expectCells(t, l, reversed(along(0, 2, 0)), 1, cells(stretch{1, 77777, 0}, stretch{length, 50000, -1}))
	}
}

// withLengths returns a line of sections with the given lengths.
func withLengths(lengths ...int) api.Layout {
	l := line(len(lengths))
	for i, length := range lengths {
		l.Sections[i].Length = length
	}
	return l
}

// expectNumberOfCells checks that a route has so many cells, or too many of them, in which case the other functions accept it nevertheless.
func expectNumberOfCells(t *testing.T, l api.Layout, r api.Route, count int) {
	t.Helper()
	if count > 4000 {
		expectCellsError(t, l, r, api.ErrFull)
	} else {
		expectCells(t, l, r, l.Sections[r.Steps[0].Section].Length, cellsModel(l, r))
		if cells, _, _ := Cells(l, r); len(cells) != count {
			t.Errorf("Cells(%s, %s): %d cells; want %d", describe(l), describe(r), len(cells), count)
		}
	}
	expectCheck(t, l, r, api.OK)
	expectClashes(t, l, r, r, true)
	if resources, errno := Resources(l, r); len(resources) != len(r.Steps) || errno != api.OK {
		t.Errorf("Resources(%s, %s) = %v, %d; want no error", describe(l), describe(r), resources, errno)
	}
}

func TestCellsUpToTheLimit(t *testing.T) {
	ten := slices.Repeat([]int{400}, 10)
	for _, q := range []struct {
		lengths []int
		overlap int
		count   int
	}{
		{ten, 0, 4000},
		{slices.Concat(ten, []int{1}), 0, 4001},
		{slices.Concat([]int{1}, ten), 0, 4001},
		{slices.Concat(ten, []int{1}), 1, 4000},
		{slices.Concat(ten, []int{400, 400}), 2, 4000},
		{slices.Concat(ten, []int{400, 400}), 1, 4400},
		{slices.Concat(ten[:9], []int{399}), 0, 3999},
		{slices.Concat(ten[:9], []int{399, 1}), 0, 4000},
		{slices.Concat(ten[:9], []int{399, 2}), 0, 4001},
		{slices.Concat(ten[:9], []int{399, 2, 400, 400}), 2, 4001},
		{slices.Repeat([]int{400}, 24), 0, 9600},
		{slices.Repeat([]int{400}, 24), 2, 8800},
		{slices.Repeat([]int{166}, 24), 0, 3984},
		{slices.Repeat([]int{167}, 24), 0, 4008},
		{slices.Repeat([]int{167}, 24), 1, 3841},
		{slices.Repeat([]int{1}, 24), 0, 24},
	} {
		expectNumberOfCells(t, withLengths(q.lengths...), along(0, len(q.lengths), q.overlap), q.count)
	}
	if api.MaxCells != 4000 || api.MaxLength != 400 {
		t.Error("the limits of the tests are others")
	}
}

// Too many cells are the last error of Cells.
func TestCellsErrorsInOrder(t *testing.T) {
	l := withLengths(slices.Repeat([]int{400}, 24)...)
	expectCellsError(t, l, along(0, 24, 0), api.ErrFull)
	expectCellsError(t, l, along(0, 24, -1), api.ErrRange)
	expectCellsError(t, l, along(1, 24, 0), api.ErrRange) // the last one is not there
	expectCellsError(t, l, reversed(along(0, 24, 0)), api.ErrFull)
	r := along(0, 24, 0)
	r.Steps[23] = up(0)
	expectCellsError(t, l, r, api.ErrDuplicate)
	r.Steps[23] = down(23)
	expectCellsError(t, l, r, api.ErrLink)
	l.Sections[23].Length = 401
	expectCellsError(t, l, along(0, 24, 0), api.ErrArg)
}

func TestCellsOfLongRandomRoutes(t *testing.T) {
	random := rand.New(rand.NewSource(74))
	counts := make(map[bool]int)
	for range 500 {
		var lengths []int
		for range 2 + random.Intn(23) {
			lengths = append(lengths, 1+random.Intn(api.MaxLength))
		}
		l, r := withLengths(lengths...), along(0, len(lengths), 0)
		r.Overlap = min(random.Intn(3), len(lengths)-2)
		if random.Intn(2) == 0 {
			slices.Reverse(r.Steps)
			for i := range r.Steps {
				r.Steps[i].Dir = api.Down
			}
		}
		count := len(cellsModel(l, r))
		counts[count > 4000]++
		expectNumberOfCells(t, l, r, count)
	}
	if counts[true] < 50 || counts[false] < 50 {
		t.Errorf("%d routes have too many cells, %d do not", counts[true], counts[false])
	}
}
