package dynamics

import (
	"fmt"
	"math/rand"
	"slices"
	"testing"

	"railplan/api"
)

// journey is what Speeds, Times and Run are called with.
type journey struct {
	cells []api.Cell
	start int
	stock api.Stock
}

func (j journey) speeds() ([]int, api.Errno) { return Speeds(j.cells, j.start, j.stock) }
func (j journey) times() ([]int, api.Errno)  { return Times(j.cells, j.start, j.stock) }
func (j journey) run() (int, api.Errno)      { return Run(j.cells, j.start, j.stock) }

// String shortens long lists of cells.
func (j journey) String() string {
	cells := fmt.Sprint(j.cells)
	if len(cells) > 300 {
		cells = fmt.Sprintf("%s... (%d cells)", cells[:300], len(j.cells))
	}
	return fmt.Sprintf("%s, %d, %+v", cells, j.start, j.stock)
}

// with returns a copy of a journey that is changed.
func (j journey) with(change func(j *journey)) journey {
	j.cells = slices.Clone(j.cells)
	change(&j)
	return j
}

// cellsOf returns as many equal cells as are asked for.
func cellsOf(count, limit, grade int) []api.Cell {
	return slices.Repeat([]api.Cell{{Limit: limit, Grade: grade}}, count)
}

// flat returns level cells with the given limits.
func flat(limits ...int) []api.Cell {
	var cells []api.Cell
	for _, limit := range limits {
		cells = append(cells, api.Cell{Limit: limit})
	}
	return cells
}

// graded returns cells with the given grades, and with the greatest limit.
func graded(grades ...int) []api.Cell {
	var cells []api.Cell
	for _, grade := range grades {
		cells = append(cells, api.Cell{Limit: api.MaxSpeed, Grade: grade})
	}
	return cells
}

func stockOf(length, speed, accel, brake int) api.Stock {
	return api.Stock{Name: "S", Length: length, Speed: speed, Accel: accel, Brake: brake}
}

// exampleJourney is that of the chapter's example.
func exampleJourney() journey {
	return journey{cellsOf(2, 30000, 0), 0, stockOf(20, 30000, 500, 500)}
}

func expectSpeeds(t *testing.T, j journey, want ...int) {
	t.Helper()
	if got, errno := j.speeds(); !slices.Equal(got, want) || errno != api.OK {
		t.Errorf("Speeds(%v) = %v, %d; want %v", j, got, errno, want)
	}
}

func expectTimes(t *testing.T, j journey, want ...int) {
	t.Helper()
	if got, errno := j.times(); !slices.Equal(got, want) || errno != api.OK {
		t.Errorf("Times(%v) = %v, %d; want %v", j, got, errno, want)
	}
}

func expectRun(t *testing.T, j journey, want int) {
	t.Helper()
	if got, errno := j.run(); got != want || errno != api.OK {
		t.Errorf("Run(%v) = %d, %d; want %d", j, got, errno, want)
	}
}

// expectError checks the error of all functions that return one, and that their other results are zero.
func expectError(t *testing.T, j journey, want api.Errno) {
	t.Helper()
	if got, errno := j.speeds(); len(got) != 0 || errno != want {
		t.Errorf("Speeds(%v) = %v, %d; want error %d", j, got, errno, want)
	}
	if got, errno := j.times(); len(got) != 0 || errno != want {
		t.Errorf("Times(%v) = %v, %d; want error %d", j, got, errno, want)
	}
	if got, errno := j.run(); got != 0 || errno != want {
		t.Errorf("Run(%v) = %d, %d; want error %d", j, got, errno, want)
	}
}

// expectAccepted checks that there is no error, and one number for each boundary.
func expectAccepted(t *testing.T, j journey) {
	t.Helper()
	speeds, errno := j.speeds()
	if len(speeds) != len(j.cells)-j.start+1 || errno != api.OK {
		t.Errorf("Speeds(%v) = %v, %d; want %d numbers", j, speeds, errno, len(j.cells)-j.start+1)
	}
	times, errno := j.times()
	if len(times) != len(j.cells)-j.start+1 || errno != api.OK {
		t.Errorf("Times(%v) = %v, %d; want %d numbers", j, times, errno, len(j.cells)-j.start+1)
	}
	if seconds, errno := j.run(); seconds < 1 || errno != api.OK {
		t.Errorf("Run(%v) = %d, %d; want no error", j, seconds, errno)
	}
}

// randomBetween prefers the bounds.
func randomBetween(random *rand.Rand, least, greatest int) int {
	switch random.Intn(8) {
	case 0:
		return least
	case 1:
		return greatest
	}
	return least + random.Intn(greatest-least+1)
}

// randomJourney returns a valid journey over at most 60 cells, so that trains are often longer than the track behind them.
func randomJourney(random *rand.Rand) journey {
	greatestLimit := []int{2000, 8000, 30000, api.MaxSpeed}[random.Intn(4)]
	steepest := []int{0, 8, api.MaxGrade}[random.Intn(3)]
	var cells []api.Cell
	for count := 2 + random.Intn(59); len(cells) < count; {
		stretch := cellsOf(1+random.Intn(8), randomBetween(random, api.MinSpeed, greatestLimit), randomBetween(random, -steepest, steepest))
		cells = append(cells, stretch[:min(len(stretch), count-len(cells))]...)
	}
	longest := []int{3, api.MaxTrain}[random.Intn(2)]
	return journey{cells, randomBetween(random, 0, len(cells)-2), api.Stock{
		Length: randomBetween(random, 1, longest),
		Speed:  randomBetween(random, api.MinSpeed, greatestLimit),
		Accel:  randomBetween(random, api.LeastRate, api.MaxRate),
		Brake:  randomBetween(random, api.LeastRate, api.MaxRate),
	}}
}

func randomJourneys(seed int64, count int) []journey {
	random := rand.New(rand.NewSource(seed))
	var journeys []journey
	for range count {
		journeys = append(journeys, randomJourney(random))
	}
	return journeys
}
