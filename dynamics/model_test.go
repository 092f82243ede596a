package dynamics

import (
	"math"
	"testing"

	"railplan/api"
)

// floorRoot does not use package arith.
func floorRoot(n int) int {
	root := int(math.Sqrt(float64(n)))
	for root*root > n {
		root--
	}
	for (root+1)*(root+1) <= n {
		root++
	}
	return root
}

// limitModel follows the definition of the limit of a cell.
func limitModel(j journey, k int) int {
	limit := j.stock.Speed
	for touched := k - j.stock.Length; touched <= k; touched++ {
		if touched >= 0 && j.cells[touched].Limit < limit {
			limit = j.cells[touched].Limit
		}
	}
	return limit
}

// accelerationModel follows the definition of the acceleration in a cell.
func accelerationModel(j journey, k int) int {
	if g := j.cells[k].Grade; g > 0 {
		return max(50, j.stock.Accel-10*g)
	}
	return j.stock.Accel
}

// brakingRateModel follows the definition of the braking rate in a cell.
func brakingRateModel(j journey, k int) int {
	if g := j.cells[k].Grade; g < 0 {
		return max(50, j.stock.Brake+10*g)
	}
	return j.stock.Brake
}

// greatestSquareModel is the greatest square at a boundary as far as the boundary itself decides.
func greatestSquareModel(j journey, b int) int {
	if b == j.start || b == len(j.cells) {
		return 0
	}
	before, after := limitModel(j, b-1), limitModel(j, b)
	return min(before*before, after*after)
}

// satisfies reports whether squares of the boundaries from the start on are as promise 6.2 requires at boundary b and in the cells beside it.
func satisfies(j journey, squares []int, b int) bool {
	square := func(b int) int { return squares[b-j.start] }
	if square(b) < 0 || square(b) > greatestSquareModel(j, b) {
		return false
	}
	for k := max(j.start, b-1); k <= min(b, len(j.cells)-1); k++ {
		if square(k+1) > square(k)+20000*accelerationModel(j, k) || square(k) > square(k+1)+20000*brakingRateModel(j, k) {
			return false
		}
	}
	return true
}

// squaresModel returns the greatest squares in another way than by two passes: at each boundary, every boundary sets a bound, which is its own greatest square and the squares that the train can gain or lose on the way.
func squaresModel(j journey) []int {
	n := len(j.cells)
	gained, lost := make([]int, n+1), make([]int, n+1)
	for k := j.start; k < n; k++ {
		gained[k+1] = gained[k] + 20000*accelerationModel(j, k)
		lost[k+1] = lost[k] + 20000*brakingRateModel(j, k)
	}
	greatest := make([]int, n+1)
	for b := j.start; b <= n; b++ {
		greatest[b] = greatestSquareModel(j, b)
	}
	squares := make([]int, n-j.start+1)
	for b := j.start; b <= n; b++ {
		least := math.MaxInt
		for other := j.start; other <= n; other++ {
			bound := greatest[other]
			if other < b {
				bound += gained[b] - gained[other]
			} else {
				bound += lost[other] - lost[b]
			}
			least = min(least, bound)
		}
		squares[b-j.start] = least
	}
	return squares
}

// expectGreatest checks that squares satisfy all, and that no single one of them can be greater. Then none of them is less than in any other solution: at the boundary where the other one is greater by the most, a condition holds with equality. It cannot be the boundary's own greatest square, so it is one of a cell, and at the other end of the cell the other solution is greater by as much. From there it goes on in the same way, and never back, because the rates are positive; but it ends at the start or at the last boundary, where both are 0.
func expectGreatest(t *testing.T, j journey, squares []int) {
	t.Helper()
	for i := range squares {
		if !satisfies(j, squares, j.start+i) {
			t.Fatalf("%v: the squares %v do not satisfy all at boundary %d", j, squares, j.start+i)
		}
		squares[i]++
		if satisfies(j, squares, j.start+i) {
			t.Fatalf("%v: the square at boundary %d of %v can be greater", j, j.start+i, squares)
		}
		squares[i]--
	}
}

// expectModel compares the results with the greatest squares and with promise 6.3.
func expectModel(t *testing.T, j journey) {
	t.Helper()
	squares := squaresModel(j)
	expectGreatest(t, j, squares)
	var speeds, times []int
	for _, square := range squares {
		speeds = append(speeds, floorRoot(square))
	}
	expectSpeeds(t, j, speeds...)
	times = append(times, 0)
	for k := 1; k < len(speeds); k++ {
		sum := speeds[k-1] + speeds[k]
		times = append(times, times[k-1]+(20000000+sum-1)/sum)
	}
	expectTimes(t, j, times...)
	expectRun(t, j, (times[len(times)-1]+999)/1000)
}

func TestRandomJourneysAgreeWithTheModel(t *testing.T) {
	for _, j := range randomJourneys(62, 20000) {
		expectModel(t, j)
	}
}

// All short tracks with few limits and grades, with all starts and short trains.
func TestShortTracksAgreeWithTheModel(t *testing.T) {
	kinds := []api.Cell{{Limit: 2000, Grade: 0}, {Limit: 6000, Grade: 40}, {Limit: 6000, Grade: -40}, {Limit: 9000, Grade: 0}}
	for count, tracks := 2, 16; count <= 5; count, tracks = count+1, 4*tracks {
		for track := range tracks {
			var cells []api.Cell
			for digits := track; len(cells) < count; digits /= 4 {
				cells = append(cells, kinds[digits%4])
			}
			for start := range count - 1 {
				for length := 1; length <= 4; length++ {
					expectModel(t, journey{cells, start, stockOf(length, 8000, 1000, 420)})
				}
			}
		}
	}
}

func TestLongTracksAgreeWithTheModel(t *testing.T) {
	for _, j := range randomJourneys(63, 3) {
		for len(j.cells) < api.MaxCells {
			j.cells = append(j.cells, j.cells[:min(len(j.cells), api.MaxCells-len(j.cells))]...)
		}
		for _, start := range []int{0, 1234, 3900, 3998} {
			j.start = start
			expectModel(t, j)
		}
	}
}
