package residue

import (
	"math"
	"slices"
	"testing"

	"railplan/api"
)

// spans returns the list of the spans whose bounds are given one after another.
func spans(bounds ...int) []api.Span {
	var list []api.Span
	for i := 0; i < len(bounds); i += 2 {
		list = append(list, api.Span{From: bounds[i], To: bounds[i+1]})
	}
	return list
}

func expectSet(t *testing.T, call string, got []api.Span, errno api.Errno, want []api.Span) {
	t.Helper()
	if errno != api.OK || !slices.Equal(got, want) {
		t.Errorf("%s = %v, %d; want %v, OK", call, got, errno, want)
	}
}

func expectError(t *testing.T, call string, got []api.Span, errno, want api.Errno) {
	t.Helper()
	if errno != want || len(got) != 0 {
		t.Errorf("%s = %v, %d; want no spans, %d", call, got, errno, want)
	}
}

// A model of a set is a slice that tells for every residue of its period whether the residue is in the set. The tests compute with models residue by residue, and compare.

func modelOf(period int, s []api.Span) []bool {
	model := make([]bool, period)
	for _, span := range s {
		for x := span.From; x < span.To; x++ {
			model[x] = true
		}
	}
	return model
}

// listOf returns the valid list of a model.
func listOf(model []bool) []api.Span {
	var list []api.Span
	for x, in := range model {
		switch {
		case in && x > 0 && model[x-1]:
			list[len(list)-1].To = x + 1
		case in:
			list = append(list, api.Span{From: x, To: x + 1})
		}
	}
	return list
}

// allSets returns the valid lists of all sets of residues of a period.
func allSets(period int) [][]api.Span {
	var sets [][]api.Span
	for bits := range 1 << period {
		model := make([]bool, period)
		for x := range model {
			model[x] = bits>>x&1 == 1
		}
		sets = append(sets, listOf(model))
	}
	return sets
}

// residueOf goes step by step, so that it shares no way of reckoning with the program.
func residueOf(x, period int) int {
	for x < 0 {
		x += period
	}
	for x >= period {
		x -= period
	}
	return x
}

// everySecond returns the list with the most spans that a period permits.
func everySecond(period int) []api.Span {
	var list []api.Span
	for x := 0; x < period-1; x += 2 {
		list = append(list, api.Span{From: x, To: x + 1})
	}
	return list
}

var periodsOutOfRange = []int{0, -1, -10, math.MinInt, api.MaxPeriod + 1, 2 * api.MaxPeriod, math.MaxInt}

// notValid contains lists that are not valid for 10, one at least for each way in which a list can fail.
var notValid = []struct {
	reason string
	list   []api.Span
}{
	{"a negative From", spans(-1, 3)},
	{"a negative From and To", spans(-5, -3)},
	{"the least From", spans(math.MinInt, 3)},
	{"an empty span", spans(4, 4)},
	{"an empty span at 0", spans(0, 0)},
	{"an empty span at t", spans(10, 10)},
	{"From after To", spans(5, 4)},
	{"From after To at the limits", spans(math.MaxInt, math.MinInt)},
	{"To after t", spans(3, 11)},
	{"a span after t", spans(10, 11)},
	{"the greatest To", spans(3, math.MaxInt)},
	{"spans that touch", spans(1, 3, 3, 5)},
	{"spans that overlap", spans(1, 4, 3, 5)},
	{"a span twice", spans(1, 4, 1, 4)},
	{"a span within another one", spans(1, 8, 3, 5)},
	{"descending spans", spans(6, 8, 1, 3)},
	{"a last span after t", spans(0, 2, 8, 11)},
	{"an empty last span", spans(0, 2, 4, 4)},
	{"an empty first span", spans(0, 0, 4, 5)},
	{"an empty span between others", spans(0, 2, 4, 4, 6, 7)},
	{"the greatest To before another span", spans(3, math.MaxInt, 5, 6)},
	{"touching spans at the end", spans(0, 1, 8, 9, 9, 10)},
}

// Promise 2.1: Valid.

func TestValidLists(t *testing.T) {
	for _, q := range []struct {
		period int
		list   []api.Span
	}{
		{10, nil},
		{10, []api.Span{}},
		{10, spans(0, 10)},
		{10, spans(0, 1)},
		{10, spans(9, 10)},
		{10, spans(3, 7)},
		{10, spans(0, 2, 8, 10)},
		{10, spans(0, 4, 5, 10)},
		{10, spans(0, 1, 2, 3, 4, 5, 6, 7, 8, 9)},
		{10, spans(1, 2, 3, 4, 5, 6, 7, 8, 9, 10)},
		{1, nil},
		{1, spans(0, 1)},
		{2, spans(0, 1)},
		{2, spans(1, 2)},
		{api.MaxPeriod, nil},
		{api.MaxPeriod, spans(0, api.MaxPeriod)},
		{api.MaxPeriod, spans(0, 1, api.MaxPeriod-1, api.MaxPeriod)},
		{api.MaxPeriod, everySecond(api.MaxPeriod)},
	} {
		if !Valid(q.period, q.list) {
			t.Errorf("Valid(%d, %v) = false", q.period, q.list)
		}
	}
}

func TestListsThatAreNotValid(t *testing.T) {
	for _, q := range notValid {
		if Valid(10, q.list) {
			t.Errorf("Valid(10, %v) = true with %s", q.list, q.reason)
		}
	}
	for _, q := range []struct {
		period int
		list   []api.Span
	}{
		{1, spans(0, 2)},
		{1, spans(1, 2)},
		{2, spans(0, 1, 1, 2)},
		{api.MaxPeriod, spans(0, api.MaxPeriod+1)},
		{api.MaxPeriod, spans(api.MaxPeriod, api.MaxPeriod+1)},
	} {
		if Valid(q.period, q.list) {
			t.Errorf("Valid(%d, %v) = true", q.period, q.list)
		}
	}
}

func TestNoListIsValidForAPeriodOutOfRange(t *testing.T) {
	for _, period := range periodsOutOfRange {
		for _, list := range [][]api.Span{nil, {}, spans(0, 1), spans(0, 2, 8, 10), spans(0, period)} {
			if Valid(period, list) {
				t.Errorf("Valid(%d, %v) = true", period, list)
			}
		}
	}
}

func TestValidOfAllListsOfTwoSpans(t *testing.T) {
	const period = 3
	valid := 0
	for a := -1; a <= 4; a++ {
		for b := -1; b <= 4; b++ {
			for c := -1; c <= 4; c++ {
				for d := -1; d <= 4; d++ {
					want := 0 <= a && a < b && b < c && c < d && d <= period
					if want {
						valid++
					}
					if list := spans(a, b, c, d); Valid(period, list) != want {
						t.Errorf("Valid(%d, %v) = %t", period, list, !want)
					}
				}
			}
		}
	}
	// Of the eight sets of three residues, only {0, 2} has two spans.
	if valid != 1 {
		t.Errorf("%d lists of two spans are valid; want 1", valid)
	}
}

// Promise 2.1: Make.

func TestMake(t *testing.T) {
	for _, q := range []struct {
		period, from, n int
		want            []api.Span
	}{
		{10, 2, 3, spans(2, 5)},
		{10, 0, 1, spans(0, 1)},
		{10, 9, 1, spans(9, 10)},
		{10, 9, 2, spans(0, 1, 9, 10)},
		{10, 8, 4, spans(0, 2, 8, 10)},
		{10, 7, 3, spans(7, 10)},
		{10, 0, 9, spans(0, 9)},
		{10, 1, 9, spans(1, 10)},
		{10, 5, 9, spans(0, 4, 5, 10)},
		{10, -3, 2, spans(7, 9)},
		{10, -3, 5, spans(0, 2, 7, 10)},
		{10, -10, 3, spans(0, 3)},
		{10, 10, 3, spans(0, 3)},
		{10, 29, 3, spans(0, 2, 9, 10)},
		{1, 0, 1, spans(0, 1)},
		{1, -7, 1, spans(0, 1)},
		{2, 3, 1, spans(1, 2)},
		{api.MaxPeriod, api.MaxPeriod - 1, 2, spans(0, 1, api.MaxPeriod-1, api.MaxPeriod)},
		{api.MaxPeriod, 0, api.MaxPeriod - 1, spans(0, api.MaxPeriod-1)},
		// 2^63 - 1 and -2^63 have the residues 7 and 2 for 10.
		{10, math.MaxInt, 1, spans(7, 8)},
		{10, math.MaxInt, 5, spans(0, 2, 7, 10)},
		{10, math.MinInt, 3, spans(2, 5)},
	} {
		got, errno := Make(q.period, q.from, q.n)
		if errno != api.OK || !slices.Equal(got, q.want) {
			t.Errorf("Make(%d, %d, %d) = %v, %d; want %v, OK", q.period, q.from, q.n, got, errno, q.want)
		}
	}
}

func TestMakeOfNoneAndOfAll(t *testing.T) {
	for _, period := range []int{1, 2, 10, api.MaxPeriod} {
		for _, from := range []int{0, 1, -1, period - 1, period, period + 1, math.MaxInt, math.MinInt} {
			for _, n := range []int{0, -1, -period, math.MinInt} {
				none, errno := Make(period, from, n)
				expectSet(t, "Make of none", none, errno, nil)
			}
			for _, n := range []int{period, period + 1, 2*period - 1, 2 * period, 3*period + 1, math.MaxInt} {
				all, errno := Make(period, from, n)
				expectSet(t, "Make of all", all, errno, spans(0, period))
			}
		}
	}
}

func TestMakeAgreesWithModel(t *testing.T) {
	for period := 1; period <= 7; period++ {
		for from := -2 * period; from <= 2*period; from++ {
			for n := -1; n <= 2*period+1; n++ {
				model := make([]bool, period)
				for i := 0; i < n; i++ {
					model[residueOf(from+i, period)] = true
				}
				got, errno := Make(period, from, n)
				expectSet(t, "Make", got, errno, listOf(model))
			}
		}
	}
}

// Promise 2.1: the errors of all functions.

// unary and pairwise are the functions of one and of two sets that return an error.
var unary = []struct {
	name string
	call func(period int, a []api.Span) ([]api.Span, api.Errno)
}{
	{"Complement", Complement},
	{"Shift by 0", func(period int, a []api.Span) ([]api.Span, api.Errno) { return Shift(period, a, 0) }},
	{"Shift by 3", func(period int, a []api.Span) ([]api.Span, api.Errno) { return Shift(period, a, 3) }},
	{"Shift by the least number", func(period int, a []api.Span) ([]api.Span, api.Errno) { return Shift(period, a, math.MinInt) }},
}

var pairwise = []struct {
	name string
	call func(period int, a, b []api.Span) ([]api.Span, api.Errno)
}{
	{"Union", Union},
	{"Intersect", Intersect},
	{"Sum", Sum},
}

func TestPeriodOutOfRange(t *testing.T) {
	for _, period := range periodsOutOfRange {
		for _, n := range []int{-1, 0, 1, 5, math.MaxInt} {
			got, errno := Make(period, 0, n)
			expectError(t, "Make", got, errno, api.ErrRange)
		}
		// Lists that are not valid, too, must not hide ErrRange.
		for _, list := range [][]api.Span{nil, spans(0, 1), spans(0, 2, 8, 10), spans(5, 4), spans(-1, 3)} {
			for _, f := range unary {
				got, errno := f.call(period, list)
				expectError(t, f.name, got, errno, api.ErrRange)
			}
			for _, f := range pairwise {
				got, errno := f.call(period, list, nil)
				expectError(t, f.name, got, errno, api.ErrRange)
				got, errno = f.call(period, nil, list)
				expectError(t, f.name, got, errno, api.ErrRange)
				got, errno = f.call(period, list, list)
				expectError(t, f.name, got, errno, api.ErrRange)
			}
		}
	}
}

func TestListNotValid(t *testing.T) {
	for _, q := range notValid {
		for _, f := range unary {
			got, errno := f.call(10, q.list)
			expectError(t, f.name+" with "+q.reason, got, errno, api.ErrArg)
		}
		for _, f := range pairwise {
			for _, other := range [][]api.Span{nil, spans(0, 10), spans(0, 2, 8, 10), q.list} {
				got, errno := f.call(10, q.list, other)
				expectError(t, f.name+" with "+q.reason+" first", got, errno, api.ErrArg)
				got, errno = f.call(10, other, q.list)
				expectError(t, f.name+" with "+q.reason+" second", got, errno, api.ErrArg)
			}
		}
	}
}

func TestPeriodsAtTheLimits(t *testing.T) {
	for _, period := range []int{1, api.MaxPeriod} {
		all := spans(0, period)
		set, errno := Make(period, 0, period)
		expectSet(t, "Make", set, errno, all)
		set, errno = Union(period, nil, all)
		expectSet(t, "Union", set, errno, all)
		set, errno = Intersect(period, all, all)
		expectSet(t, "Intersect", set, errno, all)
		set, errno = Complement(period, nil)
		expectSet(t, "Complement", set, errno, all)
		set, errno = Complement(period, all)
		expectSet(t, "Complement", set, errno, nil)
		set, errno = Shift(period, all, -1)
		expectSet(t, "Shift", set, errno, all)
		set, errno = Sum(period, all, spans(0, 1))
		expectSet(t, "Sum", set, errno, all)
		if !Has(period, all, period) || Count(period, all) != period {
			t.Errorf("Has(%d) = false or Count = %d for all residues", period, Count(period, all))
		}
	}
}

// Promise 2.2.

func TestUnion(t *testing.T) {
	for _, q := range []struct{ a, b, want []api.Span }{
		{nil, nil, nil},
		{spans(1, 3, 5, 7), nil, spans(1, 3, 5, 7)},
		{nil, spans(1, 3, 5, 7), spans(1, 3, 5, 7)},
		{spans(1, 3), spans(5, 7), spans(1, 3, 5, 7)},
		{spans(5, 7), spans(1, 3), spans(1, 3, 5, 7)},
		{spans(1, 3), spans(3, 5), spans(1, 5)},
		{spans(3, 5), spans(1, 3), spans(1, 5)},
		{spans(1, 3), spans(2, 5), spans(1, 5)},
		{spans(1, 8), spans(3, 5), spans(1, 8)},
		{spans(3, 5), spans(1, 8), spans(1, 8)},
		{spans(1, 3, 6, 8), spans(3, 6), spans(1, 8)},
		{spans(0, 1, 2, 3, 4, 5, 6, 7, 8, 9), spans(1, 2, 3, 4, 5, 6, 7, 8, 9, 10), spans(0, 10)},
		{spans(0, 1, 3, 4, 6, 7), spans(0, 8), spans(0, 8)},
		{spans(0, 10), spans(4, 5), spans(0, 10)},
		// The spans at the two ends of the period stay two spans.
		{spans(0, 2), spans(8, 10), spans(0, 2, 8, 10)},
	} {
		got, errno := Union(10, q.a, q.b)
		expectSet(t, "Union", got, errno, q.want)
	}
}

func TestIntersect(t *testing.T) {
	for _, q := range []struct{ a, b, want []api.Span }{
		{nil, nil, nil},
		{spans(1, 3, 5, 7), nil, nil},
		{nil, spans(1, 3, 5, 7), nil},
		{spans(1, 3), spans(5, 7), nil},
		{spans(1, 3), spans(3, 5), nil},
		{spans(3, 5), spans(1, 3), nil},
		{spans(1, 4), spans(3, 5), spans(3, 4)},
		{spans(1, 8), spans(3, 5), spans(3, 5)},
		{spans(1, 8), spans(0, 2, 3, 5, 7, 9), spans(1, 2, 3, 5, 7, 8)},
		{spans(0, 4, 5, 10), spans(3, 6), spans(3, 4, 5, 6)},
		{spans(0, 10), spans(0, 2, 8, 10), spans(0, 2, 8, 10)},
		{spans(0, 10), spans(0, 10), spans(0, 10)},
		{spans(0, 2, 8, 10), spans(1, 9), spans(1, 2, 8, 9)},
		{spans(0, 1, 2, 3, 4, 5), spans(1, 2, 3, 4, 5, 6), nil},
	} {
		got, errno := Intersect(10, q.a, q.b)
		expectSet(t, "Intersect", got, errno, q.want)
	}
}

func TestComplement(t *testing.T) {
	for _, q := range []struct{ a, want []api.Span }{
		{nil, spans(0, 10)},
		{spans(0, 10), nil},
		{spans(0, 2), spans(2, 10)},
		{spans(8, 10), spans(0, 8)},
		{spans(3, 5), spans(0, 3, 5, 10)},
		{spans(0, 2, 8, 10), spans(2, 8)},
		{spans(1, 2, 4, 9), spans(0, 1, 2, 4, 9, 10)},
		{spans(0, 1, 2, 3, 4, 5, 6, 7, 8, 9), spans(1, 2, 3, 4, 5, 6, 7, 8, 9, 10)},
	} {
		got, errno := Complement(10, q.a)
		expectSet(t, "Complement", got, errno, q.want)
	}
}

func TestShift(t *testing.T) {
	for _, q := range []struct {
		a    []api.Span
		by   int
		want []api.Span
	}{
		{nil, 3, nil},
		{spans(0, 10), 3, spans(0, 10)},
		{spans(0, 10), -3, spans(0, 10)},
		{spans(2, 5), 0, spans(2, 5)},
		{spans(2, 5), 10, spans(2, 5)},
		{spans(2, 5), -10, spans(2, 5)},
		{spans(2, 5), 5, spans(7, 10)},
		{spans(2, 5), 6, spans(0, 1, 8, 10)},
		{spans(2, 5), 7, spans(0, 2, 9, 10)},
		{spans(2, 5), 8, spans(0, 3)},
		{spans(2, 5), -2, spans(0, 3)},
		{spans(2, 5), -3, spans(0, 2, 9, 10)},
		{spans(2, 5), 43, spans(5, 8)},
		{spans(2, 5), -41, spans(1, 4)},
		// The spans at the two ends of the period become one, and one span becomes two.
		{spans(0, 2, 8, 10), 4, spans(2, 6)},
		{spans(2, 6), -4, spans(0, 2, 8, 10)},
		{spans(0, 4, 5, 10), 3, spans(0, 7, 8, 10)},
		{spans(0, 4, 5, 10), -5, spans(0, 9)},
		{spans(0, 1), math.MaxInt, spans(7, 8)},
		{spans(0, 1), math.MinInt, spans(2, 3)},
	} {
		got, errno := Shift(10, q.a, q.by)
		expectSet(t, "Shift", got, errno, q.want)
	}
}

func TestSum(t *testing.T) {
	for _, q := range []struct{ a, b, want []api.Span }{
		{nil, nil, nil},
		{spans(0, 2), nil, nil},
		{nil, spans(0, 10), nil},
		{spans(0, 10), spans(4, 5), spans(0, 10)},
		{spans(0, 10), spans(0, 10), spans(0, 10)},
		{spans(0, 1), spans(3, 5, 7, 8), spans(3, 5, 7, 8)},
		{spans(4, 5), spans(3, 5, 7, 8), spans(1, 2, 7, 9)},
		{spans(2, 4), spans(3, 6), spans(5, 9)},
		// Around the period.
		{spans(7, 9), spans(2, 4), spans(0, 2, 9, 10)},
		{spans(9, 10), spans(9, 10), spans(8, 9)},
		{spans(8, 10), spans(8, 10), spans(6, 9)},
		{spans(0, 2, 8, 10), spans(0, 2, 8, 10), spans(0, 3, 6, 10)},
		{spans(5, 6), spans(0, 5), spans(5, 10)},
		{spans(5, 6), spans(0, 6), spans(0, 1, 5, 10)},
		// Spans that touch or overlap only as sums.
		{spans(0, 1, 4, 5), spans(0, 4), spans(0, 8)},
		{spans(0, 1, 3, 4), spans(0, 3), spans(0, 6)},
		{spans(0, 1, 5, 6), spans(0, 5), spans(0, 10)},
		{spans(0, 2, 5, 7), spans(0, 4), spans(0, 10)},
		{spans(0, 1, 2, 3), spans(0, 1, 4, 5), spans(0, 1, 2, 3, 4, 5, 6, 7)},
		{spans(0, 1, 5, 6), spans(0, 1, 5, 6), spans(0, 1, 5, 6)},
	} {
		got, errno := Sum(10, q.a, q.b)
		expectSet(t, "Sum", got, errno, q.want)
		got, errno = Sum(10, q.b, q.a)
		expectSet(t, "Sum, exchanged", got, errno, q.want)
	}
}

func TestUnaryOperationsAgreeWithModels(t *testing.T) {
	for period := 1; period <= 8; period++ {
		for _, a := range allSets(period) {
			inA := modelOf(period, a)
			complement := make([]bool, period)
			for x := range period {
				complement[x] = !inA[x]
			}
			got, errno := Complement(period, a)
			expectSet(t, "Complement", got, errno, listOf(complement))
			for by := -2*period - 1; by <= 2*period+1; by++ {
				shifted := make([]bool, period)
				for x := range period {
					shifted[residueOf(x+by, period)] = inA[x]
				}
				got, errno := Shift(period, a, by)
				expectSet(t, "Shift", got, errno, listOf(shifted))
			}
		}
	}
}

func TestPairwiseOperationsAgreeWithModels(t *testing.T) {
	for period := 1; period <= 7; period++ {
		for _, a := range allSets(period) {
			for _, b := range allSets(period) {
				expectPairwise(t, period, a, b)
			}
		}
	}
}

func expectPairwise(t *testing.T, period int, a, b []api.Span) {
	t.Helper()
	inA, inB := modelOf(period, a), modelOf(period, b)
	union, intersection, sum := make([]bool, period), make([]bool, period), make([]bool, period)
	for x := range period {
		union[x] = inA[x] || inB[x]
		intersection[x] = inA[x] && inB[x]
		for y := range period {
			if inA[x] && inB[y] {
				sum[residueOf(x+y, period)] = true
			}
		}
	}
	got, errno := Union(period, a, b)
	expectSet(t, "Union", got, errno, listOf(union))
	got, errno = Intersect(period, a, b)
	expectSet(t, "Intersect", got, errno, listOf(intersection))
	got, errno = Sum(period, a, b)
	expectSet(t, "Sum", got, errno, listOf(sum))
}

func TestPairwiseOperationsOfTheLongestLists(t *testing.T) {
	const period = api.MaxPeriod
	even := everySecond(period)
	odd, errno := Complement(period, even)
	if errno != api.OK || len(even) != period/2 || len(odd) != period/2 {
		t.Fatalf("%d even and %d odd spans, %d", len(even), len(odd), errno)
	}
	set, errno := Union(period, even, odd)
	expectSet(t, "Union", set, errno, spans(0, period))
	set, errno = Intersect(period, even, odd)
	expectSet(t, "Intersect", set, errno, nil)
	set, errno = Shift(period, even, 1-period)
	expectSet(t, "Shift", set, errno, odd)
	set, errno = Sum(period, even, odd)
	expectSet(t, "Sum", set, errno, odd)
	set, errno = Sum(period, odd, odd)
	expectSet(t, "Sum", set, errno, even)
}

// Promise 2.3.

func TestHas(t *testing.T) {
	s := spans(0, 2, 5, 6, 8, 10)
	members := []bool{true, true, false, false, false, true, false, false, true, true}
	for x := -30; x < 40; x++ {
		if want := members[residueOf(x, 10)]; Has(10, s, x) != want {
			t.Errorf("Has(10, %v, %d) = %t", s, x, !want)
		}
	}
	// 2^63 - 1 and -2^63 have the residues 7 and 2 for 10.
	for _, q := range []struct {
		s    []api.Span
		x    int
		want bool
	}{
		{spans(7, 8), math.MaxInt, true},
		{spans(0, 7, 8, 10), math.MaxInt, false},
		{spans(2, 3), math.MinInt, true},
		{spans(0, 2, 3, 10), math.MinInt, false},
		{spans(0, 10), math.MinInt, true},
		{nil, 0, false},
		{nil, -3, false},
		{[]api.Span{}, 12, false},
	} {
		if got := Has(10, q.s, q.x); got != q.want {
			t.Errorf("Has(10, %v, %d) = %t; want %t", q.s, q.x, got, q.want)
		}
	}
}

func TestCount(t *testing.T) {
	for _, q := range []struct {
		period int
		s      []api.Span
		want   int
	}{
		{10, nil, 0},
		{10, []api.Span{}, 0},
		{10, spans(0, 10), 10},
		{10, spans(9, 10), 1},
		{10, spans(0, 2, 5, 6, 8, 10), 5},
		{1, spans(0, 1), 1},
		{api.MaxPeriod, spans(0, api.MaxPeriod), api.MaxPeriod},
		{api.MaxPeriod, everySecond(api.MaxPeriod), api.MaxPeriod / 2},
	} {
		if got := Count(q.period, q.s); got != q.want {
			t.Errorf("Count(%d, %v) = %d; want %d", q.period, q.s, got, q.want)
		}
	}
}

func TestNext(t *testing.T) {
	for _, q := range []struct {
		s          []api.Span
		from, want int
	}{
		{spans(0, 2, 8, 10), 0, 0},
		{spans(0, 2, 8, 10), 1, 0},
		{spans(0, 2, 8, 10), 2, 6},
		{spans(0, 2, 8, 10), 7, 1},
		{spans(0, 2, 8, 10), 8, 0},
		{spans(0, 2, 8, 10), 9, 0},
		{spans(0, 2, 8, 10), 10, 0},
		{spans(0, 2, 8, 10), 13, 5},
		{spans(0, 2, 8, 10), -1, 0},
		{spans(0, 2, 8, 10), -3, 1},
		{spans(0, 2, 8, 10), -8, 6},
		{spans(3, 5), 5, 8},
		{spans(3, 5), 9, 4},
		{spans(3, 5), -1, 4},
		{spans(3, 5), 25, 8},
		{spans(3, 5, 6, 7), 5, 1},
		{spans(0, 1), 1, 9},
		{spans(9, 10), 0, 9},
		{spans(0, 10), -17, 0},
		{spans(7, 8), math.MaxInt, 0},
		{spans(6, 7), math.MaxInt, 9},
		{spans(2, 3), math.MinInt, 0},
		{spans(1, 2), math.MinInt, 9},
	} {
		if got, found := Next(10, q.s, q.from); got != q.want || !found {
			t.Errorf("Next(10, %v, %d) = %d, %t; want %d, true", q.s, q.from, got, found, q.want)
		}
	}
	for _, from := range []int{0, 3, -3, 10, math.MaxInt, math.MinInt} {
		for _, s := range [][]api.Span{nil, {}} {
			if got, found := Next(10, s, from); got != 0 || found {
				t.Errorf("Next(10, %v, %d) = %d, %t; want 0, false", s, from, got, found)
			}
		}
	}
}

func TestQuestionsAgreeWithModels(t *testing.T) {
	for period := 1; period <= 8; period++ {
		for _, s := range allSets(period) {
			model := modelOf(period, s)
			count := 0
			for _, in := range model {
				if in {
					count++
				}
			}
			if got := Count(period, s); got != count {
				t.Errorf("Count(%d, %v) = %d; want %d", period, s, got, count)
			}
			for x := -2*period - 1; x <= 2*period+1; x++ {
				if want := model[residueOf(x, period)]; Has(period, s, x) != want {
					t.Errorf("Has(%d, %v, %d) = %t", period, s, x, !want)
				}
				want := 0
				for count > 0 && !model[residueOf(x+want, period)] {
					want++
				}
				if got, found := Next(period, s, x); got != want || found != (count > 0) {
					t.Errorf("Next(%d, %v, %d) = %d, %t; want %d, %t", period, s, x, got, found, want, count > 0)
				}
			}
		}
	}
}

func expectNoAnswers(t *testing.T, period int, list []api.Span, x int) {
	t.Helper()
	if Has(period, list, x) {
		t.Errorf("Has(%d, %v, %d) = true", period, list, x)
	}
	if got := Count(period, list); got != 0 {
		t.Errorf("Count(%d, %v) = %d; want 0", period, list, got)
	}
	if got, found := Next(period, list, x); got != 0 || found {
		t.Errorf("Next(%d, %v, %d) = %d, %t; want 0, false", period, list, x, got, found)
	}
}

func TestQuestionsAboutListsThatAreNotValid(t *testing.T) {
	for x := -12; x <= 12; x++ {
		for _, q := range notValid {
			expectNoAnswers(t, 10, q.list, x)
		}
		for _, period := range periodsOutOfRange {
			expectNoAnswers(t, period, nil, x)
			expectNoAnswers(t, period, spans(0, 10), x)
		}
	}
}

// Rule R2: arguments stay as they are, and results share no memory with them.

// sentinel fills the spare places behind an argument.
var sentinel = api.Span{From: -77, To: -78}

// withSpare returns a copy of a list with spare places behind it.
func withSpare(list []api.Span) []api.Span {
	spare := make([]api.Span, len(list)+6)
	for i := copy(spare, list); i < len(spare); i++ {
		spare[i] = sentinel
	}
	return spare[:len(list)]
}

func expectUntouched(t *testing.T, name string, argument, original []api.Span) {
	t.Helper()
	if !slices.Equal(argument, original) {
		t.Errorf("%s: argument %v has become %v", name, original, argument)
	}
	for _, span := range argument[len(argument):cap(argument)] {
		if span != sentinel {
			t.Errorf("%s: the spare places behind %v contain %v", name, original, span)
		}
	}
}

// overwrite changes a list and all spare places behind it.
func overwrite(list []api.Span) {
	list = list[:cap(list)]
	for i := range list {
		list[i] = api.Span{From: 1000 + i, To: 2000 + i}
	}
}

// expectSeparate calls a function with one array behind both arguments and with two, and checks that it neither writes into an argument nor returns a part of one.
func expectSeparate(t *testing.T, name string, call func(a, b []api.Span) ([]api.Span, api.Errno), a, b []api.Span) {
	t.Helper()
	first, second := withSpare(a), withSpare(b)
	if slices.Equal(a, b) {
		second = first
	}
	result, _ := call(first, second)
	again, _ := call(first, second)
	want := slices.Clone(result)
	expectUntouched(t, name, first, a)
	expectUntouched(t, name, second, b)
	overwrite(result)
	expectUntouched(t, name, first, a)
	expectUntouched(t, name, second, b)
	overwrite(first)
	overwrite(second)
	if !slices.Equal(again, want) {
		t.Errorf("%s: the result %v of %v and %v has become %v", name, want, a, b, again)
	}
}

func TestArgumentsAndResultsShareNoMemory(t *testing.T) {
	lists := [][]api.Span{nil, {}, spans(0, 10), spans(0, 2, 8, 10), spans(2, 8), spans(3, 5), spans(0, 1, 2, 3, 4, 5), spans(5, 4), spans(1, 3, 3, 5)}
	for _, period := range []int{10, 0, api.MaxPeriod + 1} {
		for _, a := range lists {
			for _, f := range unary {
				expectSeparate(t, f.name, func(first, _ []api.Span) ([]api.Span, api.Errno) { return f.call(period, first) }, a, a)
			}
			for _, b := range lists {
				for _, f := range pairwise {
					expectSeparate(t, f.name, func(first, second []api.Span) ([]api.Span, api.Errno) { return f.call(period, first, second) }, a, b)
				}
			}
			question := withSpare(a)
			Valid(period, question)
			Has(period, question, 3)
			Count(period, question)
			Next(period, question, 3)
			expectUntouched(t, "Valid, Has, Count or Next", question, a)
		}
	}
}

func TestResultsOfMakeShareNoMemory(t *testing.T) {
	first, _ := Make(10, 8, 4)
	second, _ := Make(10, 8, 4)
	overwrite(first)
	third, _ := Make(10, 8, 4)
	expectSet(t, "Make before", second, api.OK, spans(0, 2, 8, 10))
	expectSet(t, "Make after", third, api.OK, spans(0, 2, 8, 10))
}

// An argument may be a part of the array behind the other one.
func TestArgumentsThatShareMemory(t *testing.T) {
	whole := spans(0, 1, 2, 3, 4, 5, 6, 7)
	original := slices.Clone(whole)
	got, errno := Union(10, whole[:2], whole[2:])
	expectSet(t, "Union", got, errno, original)
	got, errno = Intersect(10, whole[:3], whole[1:])
	expectSet(t, "Intersect", got, errno, spans(2, 3, 4, 5))
	got, errno = Sum(10, whole[:1], whole)
	expectSet(t, "Sum", got, errno, original)
	if !slices.Equal(whole, original) {
		t.Errorf("arguments %v have become %v", original, whole)
	}
}

// The chapter's examples.

func TestExamplesOfTheChapter(t *testing.T) {
	ends, errno := Make(10, 8, 4)
	expectSet(t, "Make(10, 8, 4)", ends, errno, spans(0, 2, 8, 10))
	middle, errno := Complement(10, ends)
	expectSet(t, "Complement of it", middle, errno, spans(2, 8))
	shifted, errno := Shift(10, spans(8, 10), 3)
	expectSet(t, "Shift of {8 10} by 3", shifted, errno, spans(1, 3))
	sum, errno := Sum(10, spans(0, 2), spans(5, 7))
	expectSet(t, "Sum of {0 2} and {5 7}", sum, errno, spans(5, 8))
	if next, found := Next(10, spans(0, 2, 8, 10), 3); next != 5 || !found {
		t.Errorf("Next from 3 in {0 2} {8 10} = %d, %t; want 5, true", next, found)
	}
}
