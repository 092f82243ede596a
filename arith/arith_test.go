package arith

import (
	"math"
	"math/big"
	"testing"

	"railplan/api"
)

type binary func(a, b int) (int, api.Errno)

// operation is a call of a function of two numbers with the result that the document requires.
type operation struct {
	a, b  int
	value int
	errno api.Errno
}

func checkOperations(t *testing.T, name string, function binary, operations []operation) {
	t.Helper()
	for _, o := range operations {
		value, errno := function(o.a, o.b)
		if value != o.value || errno != o.errno {
			t.Errorf("%s(%d, %d) = %d, %d; want %d, %d", name, o.a, o.b, value, errno, o.value, o.errno)
		}
	}
}

// notableNumbers returns numbers at which sums, products and quotients change their behaviour: small ones, the powers of two, the divisors of the limits, and their neighbours.
func notableNumbers() []int {
	numbers := []int{math.MinInt, math.MinInt + 1, math.MinInt + 2, math.MaxInt, math.MaxInt - 1, math.MaxInt - 2}
	for n := -20; n <= 20; n++ {
		numbers = append(numbers, n)
	}
	// 2^63 - 1 is 7 * 7 * 73 * 127 * 337 * 92737 * 649657.
	centres := []int{7 * 7 * 73 * 127, 337 * 92737, 649657, math.MaxInt / 7, math.MaxInt / 73, math.MaxInt / 649657, 3037000499}
	for shift := 5; shift < 63; shift++ {
		centres = append(centres, 1<<shift)
	}
	for _, centre := range centres {
		for offset := -1; offset <= 1; offset++ {
			numbers = append(numbers, centre+offset, -centre+offset)
		}
	}
	return numbers
}

// expectExact compares a result with an exact one that may be too large for an int.
func expectExact(t *testing.T, name string, a, b, value int, errno api.Errno, exact *big.Int) {
	t.Helper()
	if exact.IsInt64() {
		if errno != api.OK || int64(value) != exact.Int64() {
			t.Errorf("%s(%d, %d) = %d, %d; want %s, OK", name, a, b, value, errno, exact)
		}
		return
	}
	if errno != api.ErrOverflow || value != 0 {
		t.Errorf("%s(%d, %d) = %d, %d; want 0, ErrOverflow", name, a, b, value, errno)
	}
}

// Promise 1.1.

func TestAddOfOrdinaryNumbers(t *testing.T) {
	checkOperations(t, "Add", Add, []operation{
		{0, 0, 0, api.OK},
		{2, 3, 5, api.OK},
		{-2, -3, -5, api.OK},
		{7, -12, -5, api.OK},
		{-7, 12, 5, api.OK},
	})
}

func TestAddAtAndBeyondTheLimits(t *testing.T) {
	checkOperations(t, "Add", Add, []operation{
		{math.MaxInt, 0, math.MaxInt, api.OK},
		{math.MaxInt - 1, 1, math.MaxInt, api.OK},
		{1, math.MaxInt - 1, math.MaxInt, api.OK},
		{1 << 62, 1<<62 - 1, math.MaxInt, api.OK},
		{math.MaxInt, 1, 0, api.ErrOverflow},
		{1, math.MaxInt, 0, api.ErrOverflow},
		{1 << 62, 1 << 62, 0, api.ErrOverflow},
		{math.MaxInt, math.MaxInt, 0, api.ErrOverflow},
		{math.MinInt, 0, math.MinInt, api.OK},
		{math.MinInt + 1, -1, math.MinInt, api.OK},
		{-1, math.MinInt + 1, math.MinInt, api.OK},
		{-1 << 62, -1 << 62, math.MinInt, api.OK},
		{math.MinInt, -1, 0, api.ErrOverflow},
		{-1, math.MinInt, 0, api.ErrOverflow},
		{-1 << 62, -1<<62 - 1, 0, api.ErrOverflow},
		{math.MinInt, math.MinInt, 0, api.ErrOverflow},
		{math.MaxInt, math.MinInt, -1, api.OK},
		{math.MinInt, math.MaxInt, -1, api.OK},
	})
}

func TestMulOfOrdinaryNumbers(t *testing.T) {
	checkOperations(t, "Mul", Mul, []operation{
		{0, 0, 0, api.OK},
		{0, 9, 0, api.OK},
		{-9, 0, 0, api.OK},
		{4, 6, 24, api.OK},
		{-4, 6, -24, api.OK},
		{4, -6, -24, api.OK},
		{-4, -6, 24, api.OK},
	})
}

func TestMulAtAndBeyondTheLimits(t *testing.T) {
	checkOperations(t, "Mul", Mul, []operation{
		{math.MaxInt, 1, math.MaxInt, api.OK},
		{math.MaxInt, -1, -math.MaxInt, api.OK},
		{7, math.MaxInt / 7, math.MaxInt, api.OK},
		{-7, -(math.MaxInt / 7), math.MaxInt, api.OK},
		{7, math.MaxInt/7 + 1, 0, api.ErrOverflow},
		{-7, -(math.MaxInt / 7) - 1, 0, api.ErrOverflow},
		{1 << 31, 1 << 32, 0, api.ErrOverflow},
		{-1 << 31, -1 << 32, 0, api.ErrOverflow},
		{3037000499, 3037000499, 9223372030926249001, api.OK},
		{3037000500, 3037000500, 0, api.ErrOverflow},
		{math.MinInt, 1, math.MinInt, api.OK},
		{1, math.MinInt, math.MinInt, api.OK},
		{-1 << 31, 1 << 32, math.MinInt, api.OK},
		{1 << 31, -1 << 32, math.MinInt, api.OK},
		{3, math.MinInt / 3, -9223372036854775806, api.OK},
		{3, math.MinInt/3 - 1, 0, api.ErrOverflow},
		{math.MinInt/3 - 1, 3, 0, api.ErrOverflow},
		{math.MinInt, -1, 0, api.ErrOverflow},
		{-1, math.MinInt, 0, api.ErrOverflow},
		{math.MinInt, 2, 0, api.ErrOverflow},
		{math.MinInt, math.MinInt, 0, api.ErrOverflow},
		{math.MinInt, 0, 0, api.OK},
		{0, math.MinInt, 0, api.OK},
		// The product wraps round to an innocent number.
		{1 << 32, 1 << 32, 0, api.ErrOverflow},
		{1<<32 + 1, 1 << 32, 0, api.ErrOverflow},
	})
}

func TestAddAndMulAgreeWithExactResults(t *testing.T) {
	numbers := notableNumbers()
	for _, a := range numbers {
		for _, b := range numbers {
			exactA, exactB := big.NewInt(int64(a)), big.NewInt(int64(b))
			sum, errno := Add(a, b)
			expectExact(t, "Add", a, b, sum, errno, new(big.Int).Add(exactA, exactB))
			product, errno := Mul(a, b)
			expectExact(t, "Mul", a, b, product, errno, new(big.Int).Mul(exactA, exactB))
		}
	}
}

// Promises 1.2 and 1.3.

func TestFloorDiv(t *testing.T) {
	checkOperations(t, "FloorDiv", FloorDiv, []operation{
		{7, 2, 3, api.OK},
		{-7, 2, -4, api.OK},
		{6, 3, 2, api.OK},
		{-6, 3, -2, api.OK},
		{0, 5, 0, api.OK},
		{4, 5, 0, api.OK},
		{-1, 5, -1, api.OK},
		{math.MaxInt, 1, math.MaxInt, api.OK},
		{math.MinInt, 1, math.MinInt, api.OK},
		{math.MinInt, 2, -1 << 62, api.OK},
		{math.MinInt, math.MaxInt, -2, api.OK},
		{math.MaxInt, math.MaxInt, 1, api.OK},
		{-1, math.MaxInt, -1, api.OK},
	})
}

func TestCeilDiv(t *testing.T) {
	checkOperations(t, "CeilDiv", CeilDiv, []operation{
		{7, 2, 4, api.OK},
		{-7, 2, -3, api.OK},
		{6, 3, 2, api.OK},
		{-6, 3, -2, api.OK},
		{0, 5, 0, api.OK},
		{1, 5, 1, api.OK},
		{-4, 5, 0, api.OK},
		{math.MaxInt, 1, math.MaxInt, api.OK},
		{math.MaxInt, 2, 1 << 62, api.OK},
		{math.MinInt, 1, math.MinInt, api.OK},
		{math.MinInt, math.MaxInt, -1, api.OK},
		{math.MaxInt - 1, math.MaxInt, 1, api.OK},
		{-1, math.MaxInt, 0, api.OK},
	})
}

func TestMod(t *testing.T) {
	for _, q := range []struct{ a, b, want int }{
		{7, 5, 2},
		{-7, 5, 3},
		{10, 5, 0},
		{-10, 5, 0},
		{0, 5, 0},
		{4, 5, 4},
		{-1, 5, 4},
		{-1, 1, 0},
		{math.MinInt, 1, 0},
		{math.MinInt, math.MaxInt, math.MaxInt - 1},
		{math.MaxInt, math.MaxInt, 0},
		{-1, math.MaxInt, math.MaxInt - 1},
	} {
		if got := Mod(q.a, q.b); got != q.want {
			t.Errorf("Mod(%d, %d) = %d; want %d", q.a, q.b, got, q.want)
		}
	}
}

func TestDivisionByLessThanOne(t *testing.T) {
	for _, b := range []int{0, -1, -2, -math.MaxInt, math.MinInt} {
		for _, a := range []int{0, 1, 5, -5, math.MaxInt, math.MinInt} {
			refused := []operation{{a, b, 0, api.ErrArg}}
			checkOperations(t, "FloorDiv", FloorDiv, refused)
			checkOperations(t, "CeilDiv", CeilDiv, refused)
			if got := Mod(a, b); got != 0 {
				t.Errorf("Mod(%d, %d) = %d; want 0", a, b, got)
			}
		}
	}
}

func TestDivisionAgreesWithExactResults(t *testing.T) {
	numbers := notableNumbers()
	for _, a := range numbers {
		for _, b := range numbers {
			if b < 1 {
				continue
			}
			// The quotient of DivMod is rounded down for a positive divisor.
			quotient, remainder := new(big.Int).DivMod(big.NewInt(int64(a)), big.NewInt(int64(b)), new(big.Int))
			down, errno := FloorDiv(a, b)
			expectExact(t, "FloorDiv", a, b, down, errno, quotient)
			expectExact(t, "Mod", a, b, Mod(a, b), api.OK, remainder)
			if remainder.Sign() > 0 {
				quotient.Add(quotient, big.NewInt(1))
			}
			up, errno := CeilDiv(a, b)
			expectExact(t, "CeilDiv", a, b, up, errno, quotient)
		}
	}
}

// Promise 1.4.

func expectRoot(t *testing.T, n, want int) {
	t.Helper()
	if got := Sqrt(n); got != want {
		t.Errorf("Sqrt(%d) = %d; want %d", n, got, want)
	}
}

func TestSqrtOfNegativeNumbers(t *testing.T) {
	for _, n := range []int{-1, -2, -4, -99, -1 << 32, math.MinInt + 1, math.MinInt} {
		expectRoot(t, n, 0)
	}
}

func TestSqrtOfSmallNumbers(t *testing.T) {
	root := 0
	for n := 0; n <= 100000; n++ {
		if (root+1)*(root+1) == n {
			root++
		}
		expectRoot(t, n, root)
	}
}

func TestSqrtOfSquaresAndTheirNeighbours(t *testing.T) {
	roots := []int{1, 2, 3, 3162, 46340, 46341, 94906265, 94906266, 94906267, 3037000498, 3037000499}
	for shift := 1; shift <= 31; shift++ {
		roots = append(roots, 1<<shift-1, 1<<shift, 1<<shift+1)
	}
	for _, root := range roots {
		expectRoot(t, root*root-1, root-1)
		expectRoot(t, root*root, root)
		expectRoot(t, root*root+1, root)
	}
}

func TestSqrtOfTheGreatestNumbers(t *testing.T) {
	const greatestRoot = 3037000499
	expectRoot(t, math.MaxInt, greatestRoot)
	expectRoot(t, math.MaxInt-1, greatestRoot)
	expectRoot(t, greatestRoot*greatestRoot-1, greatestRoot-1)
	expectRoot(t, 1<<62-1, 1<<31-1)
	expectRoot(t, 1<<62, 1<<31)
}

// Promise 1.5.

func TestGcdOfOrdinaryNumbers(t *testing.T) {
	checkOperations(t, "Gcd", Gcd, []operation{
		{12, 18, 6, api.OK},
		{18, 12, 6, api.OK},
		{7, 13, 1, api.OK},
		{5, 5, 5, api.OK},
		{4, 100, 4, api.OK},
		{1, 9, 1, api.OK},
		{math.MaxInt, math.MaxInt, math.MaxInt, api.OK},
		{math.MaxInt, math.MaxInt - 1, 1, api.OK},
		{1 << 62, 3 << 61, 1 << 61, api.OK},
		{math.MaxInt, 7 * 1024, 7, api.OK},
		// Neighbours in the sequence of Fibonacci take the most divisions.
		{7540113804746346429, 4660046610375530309, 1, api.OK},
	})
}

func TestGcdWithZero(t *testing.T) {
	checkOperations(t, "Gcd", Gcd, []operation{
		{0, 0, 0, api.OK},
		{0, 7, 7, api.OK},
		{7, 0, 7, api.OK},
		{0, math.MaxInt, math.MaxInt, api.OK},
		{math.MaxInt, 0, math.MaxInt, api.OK},
	})
}

func TestGcdOfNegativeNumbers(t *testing.T) {
	checkOperations(t, "Gcd", Gcd, []operation{
		{-2, 4, 0, api.ErrArg},
		{4, -2, 0, api.ErrArg},
		{-2, -4, 0, api.ErrArg},
		{0, -1, 0, api.ErrArg},
		{-1, 0, 0, api.ErrArg},
		{math.MinInt, 0, 0, api.ErrArg},
		{0, math.MinInt, 0, api.ErrArg},
		{math.MinInt, math.MinInt, 0, api.ErrArg},
	})
}

func TestGcdIsTheGreatestOfAllCommonDivisors(t *testing.T) {
	for a := 1; a <= 60; a++ {
		for b := 1; b <= 60; b++ {
			greatest := 1
			for d := 2; d <= min(a, b); d++ {
				if a%d == 0 && b%d == 0 {
					greatest = d
				}
			}
			checkOperations(t, "Gcd", Gcd, []operation{{a, b, greatest, api.OK}})
		}
	}
}

// The chapter's examples.

func TestExamplesOfTheChapter(t *testing.T) {
	checkOperations(t, "FloorDiv", FloorDiv, []operation{{-7, 2, -4, api.OK}})
	checkOperations(t, "CeilDiv", CeilDiv, []operation{{-7, 2, -3, api.OK}})
	if got := Mod(-7, 5); got != 3 {
		t.Errorf("Mod(-7, 5) = %d; want 3", got)
	}
	expectRoot(t, 99, 9)
	checkOperations(t, "Gcd", Gcd, []operation{{12, 18, 6, api.OK}})
	checkOperations(t, "Add", Add, []operation{{1<<63 - 1, 1, 0, api.ErrOverflow}})
}
