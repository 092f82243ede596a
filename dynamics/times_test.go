package dynamics

import (
	"math/rand"
	"slices"
	"testing"

	"railplan/api"
)

// Promise 6.3.

// Two cells, whose middle is passed with the limit.
func TestTheTimeOfEachCellIsRoundedUp(t *testing.T) {
	for _, q := range []struct{ limit, first, last, run int }{
		{1000, 20000, 40000, 40},
		{1001, 19981, 39962, 40}, // 19980.02
		{1999, 10006, 20012, 21}, // 10005.003
		{2000, 10000, 20000, 20},
		{2001, 9996, 19992, 20}, // 9995.003
		{3077, 6500, 13000, 13}, // 6499.84
		{4444, 4501, 9002, 10},  // 4500.45
		{4445, 4500, 9000, 9},   // 4499.44
		{4999, 4001, 8002, 9},   // 4000.80
		{5000, 4000, 8000, 8},   // 4000
		{5001, 4000, 8000, 8},   // 3999.20
		{5002, 3999, 7998, 8},   // 3998.40
		{6250, 3200, 6400, 7},   // 3200
		{99999, 3163, 6326, 7},  // 3162.56, with a speed of 6324
		{100000, 3163, 6326, 7}, // likewise
	} {
		expectTimes(t, journey{cellsOf(2, q.limit, 0), 0, stockOf(1, 100000, 2000, 2000)}, 0, q.first, q.last)
		expectRun(t, journey{cellsOf(2, q.limit, 0), 0, stockOf(1, 100000, 2000, 2000)}, q.run)
	}
}

// Each cell counts with the speeds at its own boundaries, and is rounded by itself.
func TestTimesOfSeveralCells(t *testing.T) {
	// The speeds are 0, 5099, 6082, 0; the times of the cells 3922.34, 1788.75 and 3288.39.
	j := journey{cellsOf(3, 100000, 0), 0, stockOf(1, 100000, 1300, 1850)}
	expectTimes(t, j, 0, 3923, 5712, 9001)
	expectRun(t, j, 10)
	// The speeds are 0, 6082, 5099, 0.
	j = journey{cellsOf(3, 100000, 0), 0, stockOf(1, 100000, 1850, 1300)}
	expectTimes(t, j, 0, 3289, 5078, 9001)
	expectRun(t, j, 10)
	// The speeds are 0, 5556, 5556, 0; the times of the cells 3599.71, 1799.86 and 3599.71.
	j = journey{cellsOf(3, 5556, 0), 0, stockOf(1, 100000, 2000, 2000)}
	expectTimes(t, j, 0, 3600, 5400, 9000)
	expectRun(t, j, 9)
	// The speeds are 0, 2000, 6633, 8944, 6324, 0; the times of the cells 10000, 2316.69, 1283.94, 1309.93 and 3162.56.
	j = journey{flat(2000, 10000, 10000, 10000, 10000, 10000, 10000), 2, stockOf(2, 100000, 2000, 2000)}
	expectTimes(t, j, 0, 10000, 12317, 13601, 14911, 18074)
	expectRun(t, j, 19)
}

func TestTimesAtTheLeastAndAtTheGreatestSpeed(t *testing.T) {
	for _, count := range []int{2, 3, 100, 4000} {
		times, errno := Times(cellsOf(count, 1000, 0), 0, stockOf(40, 100000, 2000, 2000))
		if len(times) != count+1 || errno != api.OK {
			t.Fatalf("Times of %d cells: %d numbers, error %d", count, len(times), errno)
		}
		for b, time := range times {
			want := 10000 + 10000*b
			switch b {
			case 0:
				want = 0
			case count:
				want = 20000 + 10000*b
			}
			if time != want {
				t.Errorf("Times of %d cells: %d at boundary %d; want %d", count, time, b, want)
			}
		}
		expectRun(t, journey{cellsOf(count, 1000, 0), 0, stockOf(40, 100000, 2000, 2000)}, 20+10*count)
	}
	times, _ := Times(cellsOf(4000, 100000, 0), 0, stockOf(40, 100000, 2000, 2000))
	for b := 251; b <= 3750; b++ {
		if times[b]-times[b-1] != 100 {
			t.Errorf("a cell at the greatest speed takes %d; want 100", times[b]-times[b-1])
		}
	}
}

// Run returns the last of the Times, also if they are whole seconds.
func TestRunIsTheLastTimeRoundedUp(t *testing.T) {
	remainders := make(map[int]bool)
	for _, j := range randomJourneys(64, 5000) {
		times, _ := j.times()
		last := times[len(times)-1]
		seconds, errno := j.run()
		if errno != api.OK || 1000*seconds < last || 1000*(seconds-1) >= last {
			t.Errorf("Run(%v) = %d, %d; the last of the times is %d", j, seconds, errno, last)
		}
		remainders[last%1000] = true
	}
	for _, remainder := range []int{0, 1, 999} {
		if !remainders[remainder] {
			t.Errorf("no last time has the remainder %d", remainder)
		}
	}
}

// The chapter's example.

func TestExampleOfTheChapter(t *testing.T) {
	j := exampleJourney()
	for length := 1; length <= api.MaxTrain; length++ {
		j.stock.Length = length
		expectCheck(t, j.stock, true)
		expectSpeeds(t, j, 0, 3162, 0)
		expectTimes(t, j, 0, 6326, 12652)
		expectRun(t, j, 13)
	}
}

// The consequences.

func TestTimesAreAscending(t *testing.T) {
	for _, j := range randomJourneys(65, 2000) {
		times, errno := j.times()
		if errno != api.OK || times[0] != 0 {
			t.Fatalf("Times(%v) = %v, %d", j, times, errno)
		}
		for i := 1; i < len(times); i++ {
			if times[i] <= times[i-1] {
				t.Errorf("Times(%v) = %v are not ascending", j, times)
			}
		}
	}
}

// expectNotLater checks that no time of the first journey is greater than that of the second one.
func expectNotLater(t *testing.T, faster, slower journey) {
	t.Helper()
	early, errno := faster.times()
	if errno != api.OK {
		t.Fatalf("Times(%v): error %d", faster, errno)
	}
	late, errno := slower.times()
	if errno != api.OK || len(late) != len(early) {
		t.Fatalf("Times(%v) = %v, %d; want %d numbers", slower, late, errno, len(early))
	}
	for i := range early {
		if early[i] > late[i] {
			t.Errorf("Times(%v) = %v, but Times(%v) = %v", faster, early, slower, late)
			return
		}
	}
	least, _ := faster.run()
	most, _ := slower.run()
	if least > most {
		t.Errorf("Run(%v) = %d, but Run(%v) = %d", faster, least, slower, most)
	}
}

func TestABetterStockIsNeverLater(t *testing.T) {
	random := rand.New(rand.NewSource(66))
	increased := func(n, greatest int) int {
		if random.Intn(2) == 0 {
			return min(n+1, greatest)
		}
		return randomBetween(random, n, greatest)
	}
	for _, j := range randomJourneys(67, 2000) {
		faster := j
		faster.stock.Speed = increased(j.stock.Speed, api.MaxSpeed)
		expectNotLater(t, faster, j)
		faster = j
		faster.stock.Accel = increased(j.stock.Accel, api.MaxRate)
		expectNotLater(t, faster, j)
		faster = j
		faster.stock.Brake = increased(j.stock.Brake, api.MaxRate)
		expectNotLater(t, faster, j)
		longer := j
		longer.stock.Length = increased(j.stock.Length, api.MaxTrain)
		expectNotLater(t, j, longer)
	}
}

// Neither a greater limit nor leaving out the cells before the start increases a time, and more cells before them that have the greatest limit change none.
func TestABetterTrackIsNeverLater(t *testing.T) {
	random := rand.New(rand.NewSource(68))
	for _, j := range randomJourneys(69, 2000) {
		faster := j.with(func(j *journey) {
			cell := &j.cells[random.Intn(len(j.cells))]
			cell.Limit = randomBetween(random, cell.Limit, api.MaxSpeed)
		})
		expectNotLater(t, faster, j)
		expectNotLater(t, j.with(func(j *journey) { j.cells, j.start = j.cells[j.start:], 0 }), j)
		behind := j.with(func(j *journey) {
			j.cells = slices.Concat(cellsOf(5, api.MaxSpeed, 7), j.cells)
			j.start += 5
		})
		times, _ := j.times()
		expectTimes(t, behind, times...)
	}
}
