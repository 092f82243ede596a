package dynamics

import (
	"slices"
	"testing"

	"railplan/api"
)

// failingJourneys returns journeys with an error of each kind.
func failingJourneys() map[api.Errno]journey {
	return map[api.Errno]journey{
		api.ErrArg:   exampleJourney().with(func(j *journey) { j.stock.Accel = 99 }),
		api.ErrFull:  exampleJourney().with(func(j *journey) { j.cells = cellsOf(4001, 30000, 0) }),
		api.ErrRange: exampleJourney().with(func(j *journey) { j.cells[1].Grade = 41 }),
	}
}

// withSpare returns a journey with filled places behind its cells.
func withSpare(j journey) journey {
	spare := api.Cell{Limit: 1000, Grade: -7}
	j.cells = append(slices.Clone(j.cells), spare, spare, spare)[:len(j.cells)]
	return j
}

func whole[T any](list []T) []T {
	return list[:cap(list)]
}

// The places behind the cells have no influence and are not changed, also if the results are overwritten.
func TestArgumentsAreLeftAlone(t *testing.T) {
	journeys := append(randomJourneys(70, 500), exampleJourney())
	for _, j := range failingJourneys() {
		journeys = append(journeys, j)
	}
	for _, j := range journeys {
		argument := withSpare(j)
		before := slices.Clone(whole(argument.cells))
		Check(argument.stock)
		speeds, errno := argument.speeds()
		times, _ := argument.times()
		seconds, _ := argument.run()
		if errno == api.OK {
			expectSpeeds(t, j, speeds...)
			expectTimes(t, j, times...)
			expectRun(t, j, seconds)
		}
		clear(whole(speeds))
		clear(whole(times))
		if !slices.Equal(whole(argument.cells), before) {
			t.Errorf("the cells of %v or the places behind them are changed", j)
		}
	}
}

// Results are not changed by what the caller does with the arguments, and with other results.
func TestResultsShareNoMemory(t *testing.T) {
	for _, j := range append(randomJourneys(71, 500), exampleJourney()) {
		argument := withSpare(j)
		firstSpeeds, _ := argument.speeds()
		firstTimes, _ := argument.times()
		wantSpeeds, wantTimes := slices.Clone(firstSpeeds), slices.Clone(firstTimes)
		secondSpeeds, _ := argument.speeds()
		secondTimes, _ := argument.times()
		clear(whole(secondSpeeds))
		clear(whole(secondTimes))
		clear(whole(argument.cells))
		if !slices.Equal(firstSpeeds, wantSpeeds) || !slices.Equal(firstTimes, wantTimes) {
			t.Errorf("the results %v and %v of %v have become %v and %v", wantSpeeds, wantTimes, j, firstSpeeds, firstTimes)
		}
		expectSpeeds(t, j, wantSpeeds...)
		expectTimes(t, j, wantTimes...)
	}
}

// A call that returned an error, or another result, leaves nothing behind for the next one.
func TestResultsDependOnTheArgumentsOnly(t *testing.T) {
	for range 3 {
		for errno, j := range failingJourneys() {
			expectError(t, j, errno)
			expectSpeeds(t, exampleJourney(), 0, 3162, 0)
			expectTimes(t, exampleJourney(), 0, 6326, 12652)
			expectRun(t, exampleJourney(), 13)
		}
		expectSpeeds(t, exampleJourney().with(func(j *journey) { j.stock.Speed = 3000 }), 0, 3000, 0)
		expectSpeeds(t, exampleJourney().with(func(j *journey) { j.cells[0].Limit = 2000 }), 0, 2000, 0)
	}
}
