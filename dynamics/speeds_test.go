package dynamics

import (
	"slices"
	"testing"

	"railplan/api"
)

// Promise 6.2.

func TestSpeedsBetweenTwoStands(t *testing.T) {
	fast := stockOf(1, 100000, 500, 500)
	expectSpeeds(t, journey{cellsOf(2, 30000, 0), 0, fast}, 0, 3162, 0)
	expectSpeeds(t, journey{cellsOf(3, 30000, 0), 0, fast}, 0, 3162, 3162, 0)
	expectSpeeds(t, journey{cellsOf(4, 30000, 0), 0, fast}, 0, 3162, 4472, 3162, 0)
	// The squares rise by 20000000, and fall by 4000000.
	expectSpeeds(t, journey{cellsOf(4, 30000, 0), 0, stockOf(1, 30000, 1000, 200)}, 0, 3464, 2828, 2000, 0)
	expectSpeeds(t, journey{cellsOf(4, 30000, 0), 0, stockOf(1, 30000, 200, 1000)}, 0, 2000, 2828, 3464, 0)
	expectSpeeds(t, journey{cellsOf(7, 30000, 0), 0, stockOf(1, 30000, 1000, 200)}, 0, 4472, 4472, 4000, 3464, 2828, 2000, 0)
	expectSpeeds(t, journey{cellsOf(7, 30000, 0), 0, stockOf(1, 30000, 200, 1000)}, 0, 2000, 2828, 3464, 4000, 4472, 4472, 0)
}

func TestSpeedsAtAConstantLimit(t *testing.T) {
	// The limit of the cells, and that of the stock.
	expectSpeeds(t, journey{cellsOf(6, 3000, 0), 0, stockOf(3, 100000, 300, 400)}, 0, 2449, 3000, 3000, 3000, 2828, 0)
	expectSpeeds(t, journey{cellsOf(6, 100000, 0), 0, stockOf(3, 3000, 300, 400)}, 0, 2449, 3000, 3000, 3000, 2828, 0)
	expectSpeeds(t, journey{flat(9000, 3000, 8000, 3001, 3000, 7000), 0, stockOf(1, 3000, 300, 400)}, 0, 2449, 3000, 3000, 3000, 2828, 0)
	// Each rate reaches the least limit within a cell: the least one, MinRate, exactly.
	for _, grade := range []int{-40, -5, 0, 5, 40} {
		for _, rate := range []int{100, 2000} {
			expectSpeeds(t, journey{cellsOf(5, 1000, grade), 0, stockOf(1, 100000, rate, rate)}, 0, 1000, 1000, 1000, 1000, 0)
			expectSpeeds(t, journey{cellsOf(5, 100000, grade), 0, stockOf(1, 1000, rate, rate)}, 0, 1000, 1000, 1000, 1000, 0)
		}
	}
}

// The squares change by 40000000 in each cell.
func TestALongTrainCarriesALimitOverTheCellsBehindIt(t *testing.T) {
	cells := flat(10000, 10000, 10000, 2000, 10000, 10000, 10000, 10000, 10000, 10000)
	expect := func(length int, want ...int) {
		t.Helper()
		expectSpeeds(t, journey{cells, 0, stockOf(length, 100000, 2000, 2000)}, want...)
	}
	expect(1, 0, 6324, 6633, 2000, 2000, 2000, 6633, 9165, 8944, 6324, 0)
	expect(2, 0, 6324, 6633, 2000, 2000, 2000, 2000, 6633, 8944, 6324, 0)
	expect(4, 0, 6324, 6633, 2000, 2000, 2000, 2000, 2000, 2000, 6324, 0)
	for _, length := range []int{5, 6, 7, 40} {
		expect(length, 0, 6324, 6633, 2000, 2000, 2000, 2000, 2000, 2000, 2000, 0)
	}
}

func TestALimitOfTheFirstAndOfTheLastCell(t *testing.T) {
	expect := func(length int, cells []api.Cell, want ...int) {
		t.Helper()
		expectSpeeds(t, journey{cells, 0, stockOf(length, 100000, 2000, 2000)}, want...)
	}
	first := flat(2000, 10000, 10000, 10000, 10000, 10000)
	expect(1, first, 0, 2000, 2000, 6633, 8944, 6324, 0)
	expect(2, first, 0, 2000, 2000, 2000, 6633, 6324, 0)
	expect(40, first, 0, 2000, 2000, 2000, 2000, 2000, 0)
	last := flat(10000, 10000, 10000, 10000, 10000, 2000)
	for _, length := range []int{1, 2, 40} {
		expect(length, last, 0, 6324, 8944, 9165, 6633, 2000, 0)
	}
}

// The tail is on the cells before the start, whose grades have no influence.
func TestStartInTheMiddleOfTheCells(t *testing.T) {
	cells := flat(2000, 10000, 10000, 10000, 10000, 10000, 10000)
	expect := func(start int, want ...int) {
		t.Helper()
		for _, grade := range []int{-40, -1, 0, 1, 40} {
			graded := slices.Clone(cells)
			for i := range start {
				graded[i].Grade = grade
			}
			expectSpeeds(t, journey{graded, start, stockOf(2, 100000, 2000, 2000)}, want...)
		}
	}
	expect(0, 0, 2000, 2000, 2000, 6633, 8944, 6324, 0)
	expect(1, 0, 2000, 2000, 6633, 8944, 6324, 0)
	// The limit ends at the first cell of the run.
	expect(2, 0, 2000, 6633, 8944, 6324, 0)
	expect(3, 0, 6324, 8944, 6324, 0)
	expect(4, 0, 6324, 6324, 0)
	expect(5, 0, 6324, 0)
}

func TestTheLimitBeforeTheStartCountsToTheLengthOfTheTrain(t *testing.T) {
	const start = 45
	for _, length := range []int{1, 2, 20, 39, 40} {
		for slow := range start {
			j := journey{cellsOf(47, 10000, 0), start, stockOf(length, 100000, 2000, 2000)}
			j.cells[slow].Limit = 2000
			if slow >= start-length {
				expectSpeeds(t, j, 0, 2000, 0)
				continue
			}
			expectSpeeds(t, j, 0, 6324, 0)
		}
	}
}

// The squares rise by 20000 times 300 less ten times the grade, but at least by 20000 times 50.
func TestSpeedsUphillAndDownhill(t *testing.T) {
	uphill := graded(10, 24, 25, 26, 40, -40, -1, 0)
	expectSpeeds(t, journey{uphill, 0, stockOf(1, 100000, 300, 2000)}, 0, 2000, 2280, 2489, 2683, 2863, 3768, 4494, 0)
	downhill := graded(0, 1, 40, -40, -26, -25, -24, -10)
	expectSpeeds(t, journey{downhill, 0, stockOf(1, 100000, 2000, 300)}, 0, 4494, 3768, 2863, 2683, 2489, 2280, 2000, 0)
	// The grades of the first and the last cell change one rate each.
	expectSpeeds(t, journey{graded(40, 40), 0, stockOf(1, 100000, 2000, 2000)}, 0, 5656, 0)
	expectSpeeds(t, journey{graded(-40, -40), 0, stockOf(1, 100000, 2000, 2000)}, 0, 5656, 0)
	expectSpeeds(t, journey{graded(-40, 40), 0, stockOf(1, 100000, 2000, 2000)}, 0, 6324, 0)
	expectSpeeds(t, journey{graded(40, -40), 0, stockOf(1, 100000, 2000, 1900)}, 0, 5477, 0)
	expectSpeeds(t, journey{graded(40, -40), 0, stockOf(1, 100000, 1900, 2000)}, 0, 5477, 0)
}

func TestSpeedsOnEachGrade(t *testing.T) {
	for _, rate := range []int{100, 101, 249, 250, 251, 449, 450, 451, 2000} {
		for grade := -40; grade <= 40; grade++ {
			up, down := rate, rate
			if grade > 0 {
				up = max(50, rate-10*grade)
			}
			if grade < 0 {
				down = max(50, rate+10*grade)
			}
			middle := floorRoot(20000 * min(up, down))
			expectSpeeds(t, journey{cellsOf(2, 100000, grade), 0, stockOf(1, 100000, rate, rate)}, 0, middle, 0)
			expectSpeeds(t, journey{graded(grade, 0), 0, stockOf(1, 100000, rate, 2000)}, 0, floorRoot(20000*up), 0)
			expectSpeeds(t, journey{graded(0, grade), 0, stockOf(1, 100000, 2000, rate)}, 0, floorRoot(20000*down), 0)
		}
	}
}

func TestARunThatNeverReachesItsLimit(t *testing.T) {
	var want []int
	for b := 0; b <= 100; b++ {
		want = append(want, floorRoot(2000000*min(b, 100-b)))
	}
	expectSpeeds(t, journey{cellsOf(100, 10001, 0), 0, stockOf(40, 100000, 100, 100)}, want...)
	expectSpeeds(t, journey{cellsOf(100, 10000, 0), 0, stockOf(40, 100000, 100, 100)}, want...)
	if want[50] != 10000 {
		t.Errorf("the greatest speed is %d; want 10000", want[50])
	}
	want[50] = 9999
	expectSpeeds(t, journey{cellsOf(100, 9999, 0), 0, stockOf(40, 100000, 100, 100)}, want...)
}

// With the greatest rates, 250 cells lead to the greatest square, 10000000000.
func TestTheGreatestSquares(t *testing.T) {
	expect := func(cells int, want map[int]int) {
		t.Helper()
		speeds, errno := Speeds(cellsOf(cells, 100000, 0), 0, stockOf(40, 100000, 2000, 2000))
		if len(speeds) != cells+1 || errno != api.OK {
			t.Fatalf("Speeds of %d cells: %d numbers, error %d", cells, len(speeds), errno)
		}
		for b, speed := range want {
			if speeds[b] != speed {
				t.Errorf("Speeds of %d cells: %d at boundary %d; want %d", cells, speeds[b], b, speed)
			}
		}
	}
	expect(499, map[int]int{0: 0, 1: 6324, 248: 99599, 249: 99799, 250: 99799, 251: 99599, 498: 6324, 499: 0})
	expect(500, map[int]int{0: 0, 1: 6324, 249: 99799, 250: 100000, 251: 99799, 499: 6324, 500: 0})
	expect(501, map[int]int{249: 99799, 250: 100000, 251: 100000, 252: 99799})
	expect(4000, map[int]int{0: 0, 249: 99799, 250: 100000, 251: 100000, 2000: 100000, 3749: 100000, 3750: 100000, 3751: 99799, 3999: 6324, 4000: 0})
}

// A track that looks the same from both ends, but for the grades, is travelled in the same way with the rates exchanged.
func TestSpeedsInTheOtherDirection(t *testing.T) {
	for _, j := range randomJourneys(61, 500) {
		for i := range j.cells {
			j.cells[i].Limit = j.cells[0].Limit
		}
		j.cells, j.start = j.cells[j.start:], 0
		back := j.with(func(j *journey) {
			slices.Reverse(j.cells)
			for i := range j.cells {
				j.cells[i].Grade *= -1
			}
			j.stock.Accel, j.stock.Brake = j.stock.Brake, j.stock.Accel
		})
		speeds, errno := j.speeds()
		if errno != api.OK {
			t.Fatalf("Speeds(%v): error %d", j, errno)
		}
		slices.Reverse(speeds)
		expectSpeeds(t, back, speeds...)
	}
}
