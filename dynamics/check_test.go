package dynamics

import (
	"math"
	"strings"
	"testing"

	"railplan/api"
)

// Promise 6.1.

// numberOfStock is a number of a stock with its bounds.
type numberOfStock struct {
	name            string
	set             func(s *api.Stock, n int)
	least, greatest int
}

func numbersOfStock() []numberOfStock {
	return []numberOfStock{
		{"Length", func(s *api.Stock, n int) { s.Length = n }, 1, 40},
		{"Speed", func(s *api.Stock, n int) { s.Speed = n }, 1000, 100000},
		{"Accel", func(s *api.Stock, n int) { s.Accel = n }, 100, 2000},
		{"Brake", func(s *api.Stock, n int) { s.Brake = n }, 100, 2000},
	}
}

func expectCheck(t *testing.T, s api.Stock, want bool) {
	t.Helper()
	if got := Check(s); got != want {
		t.Errorf("Check(%+v) = %t; want %t", s, got, want)
	}
}

func TestCheckOfEachNumberAtItsBounds(t *testing.T) {
	for _, number := range numbersOfStock() {
		for _, q := range []struct {
			n    int
			want bool
		}{
			{number.least, true}, {number.least + 1, true}, {(number.least + number.greatest) / 2, true}, {number.greatest - 1, true}, {number.greatest, true},
			{number.least - 1, false}, {number.greatest + 1, false}, {0, false}, {-number.least, false}, {-number.greatest, false}, {math.MinInt, false}, {math.MaxInt, false},
		} {
			j := exampleJourney()
			number.set(&j.stock, q.n)
			expectCheck(t, j.stock, q.want)
			if q.want {
				expectAccepted(t, j)
			} else {
				expectError(t, j, api.ErrArg)
			}
		}
	}
}

func TestCheckOfSeveralNumbersAtTheirBounds(t *testing.T) {
	numbers := numbersOfStock()
	for choice := range 1 << (2 * len(numbers)) {
		var s api.Stock
		want := true
		for i, number := range numbers {
			n := []int{number.least, number.greatest, number.least - 1, number.greatest + 1}[choice>>(2*i)&3]
			number.set(&s, n)
			want = want && number.least <= n && n <= number.greatest
		}
		expectCheck(t, s, want)
	}
	expectCheck(t, api.Stock{}, false)
}

func TestTheNameHasNoInfluence(t *testing.T) {
	for _, name := range []string{"", "S", "7", "two words", "#", "\x00\xFF", strings.Repeat("long", 1000)} {
		j := exampleJourney()
		j.stock.Name = name
		expectCheck(t, j.stock, true)
		expectSpeeds(t, j, 0, 3162, 0)
		expectTimes(t, j, 0, 6326, 12652)
		expectRun(t, j, 13)
		j.stock.Length = 0
		expectCheck(t, j.stock, false)
		expectError(t, j, api.ErrArg)
	}
}

func TestNumberOfCells(t *testing.T) {
	stock := stockOf(2, 1000, 500, 500)
	for _, start := range []int{-1, 0, 1} {
		expectError(t, journey{nil, start, stock}, api.ErrRange)
		expectError(t, journey{[]api.Cell{}, start, stock}, api.ErrRange)
		expectError(t, journey{cellsOf(1, 1000, 0), start, stock}, api.ErrRange)
	}
	for _, start := range []int{-2, -1, 1, 2} {
		expectError(t, journey{cellsOf(2, 1000, 0), start, stock}, api.ErrRange)
	}
	expectSpeeds(t, journey{cellsOf(2, 1000, 0), 0, stock}, 0, 1000, 0)
	for _, start := range []int{0, 1, 2000, 3998} {
		for _, count := range []int{4000, 4001, 4002, 10000} {
			want := api.OK
			if count > 4000 {
				want = api.ErrFull
			}
			j := journey{cellsOf(count, 1000, 0), start, stock}
			if want == api.OK {
				expectAccepted(t, j)
			} else {
				expectError(t, j, want)
			}
		}
	}
	expectError(t, journey{cellsOf(4000, 1000, 0), 3999, stock}, api.ErrRange)
}

// Cells before the start count as well.
func TestRangesOfEachCell(t *testing.T) {
	const count, start = 7, 3
	for place := range count {
		for _, limit := range []int{1000, 1001, 99999, 100000} {
			expectAccepted(t, journey{cellsOf(count, 5000, 0), start, stockOf(2, 9000, 500, 500)}.with(func(j *journey) { j.cells[place].Limit = limit }))
		}
		for _, limit := range []int{999, 0, -1, -1000, 100001, math.MinInt, math.MaxInt} {
			expectError(t, journey{cellsOf(count, 5000, 0), start, stockOf(2, 9000, 500, 500)}.with(func(j *journey) { j.cells[place].Limit = limit }), api.ErrRange)
		}
		for _, grade := range []int{-40, -39, -1, 0, 1, 39, 40} {
			expectAccepted(t, journey{cellsOf(count, 5000, 0), start, stockOf(2, 9000, 500, 500)}.with(func(j *journey) { j.cells[place].Grade = grade }))
		}
		for _, grade := range []int{-41, 41, math.MinInt, math.MaxInt} {
			expectError(t, journey{cellsOf(count, 5000, 0), start, stockOf(2, 9000, 500, 500)}.with(func(j *journey) { j.cells[place].Grade = grade }), api.ErrRange)
		}
	}
}

func TestRangeOfStart(t *testing.T) {
	for _, count := range []int{2, 3, 10, 4000} {
		for _, start := range []int{math.MinInt, -count, -2, -1, count - 1, count, count + 1, 2 * count, math.MaxInt - 1, math.MaxInt} {
			expectError(t, journey{cellsOf(count, 3000, 0), start, stockOf(1, 3000, 200, 200)}, api.ErrRange)
		}
		for _, start := range []int{0, (count - 2) / 2, count - 2} {
			expectAccepted(t, journey{cellsOf(count, 3000, 0), start, stockOf(1, 3000, 200, 200)})
		}
	}
}

// If several errors hold, the first one counts: the stock, the number of cells, the ranges.
func TestOrderOfTheErrors(t *testing.T) {
	stocks := []api.Stock{{}, stockOf(0, 3000, 200, 200), stockOf(1, 3000, 200, 99)}
	short := [][]api.Cell{nil, cellsOf(1, 3000, 0), cellsOf(2, 3000, 0), cellsOf(9, 999, 0), cellsOf(9, 3000, 41), cellsOf(4000, 3000, 0)}
	long := [][]api.Cell{cellsOf(4001, 3000, 0), cellsOf(4001, 999, 0), cellsOf(4001, 3000, -41)}
	for _, start := range []int{-1, 0, 1, 3999, 4000, 5000} {
		for _, cells := range append(short, long...) {
			for _, stock := range stocks {
				expectError(t, journey{cells, start, stock}, api.ErrArg)
			}
		}
		for _, cells := range long {
			expectError(t, journey{cells, start, stockOf(1, 3000, 200, 200)}, api.ErrFull)
		}
	}
}
