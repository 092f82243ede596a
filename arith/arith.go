// Package arith: integer arithmetic (doc/01-arith.md).
package arith

import (
	"math"
	"math/bits"

	"railplan/api"
)

// Add returns the sum of a and b, or ErrOverflow if no int represents it.
func Add(a, b int) (int, api.Errno) {
	if sumOverflows(a, b) {
		return 0, api.ErrOverflow
	}
	return a + b, api.OK
}

// sumOverflows compares a with a difference that cannot overflow itself, because b has the sign that moves the limit towards zero.
func sumOverflows(a, b int) bool {
	if b > 0 {
		return a > math.MaxInt-b
	}
	return a < math.MinInt-b
}

// Mul returns the product of a and b, or ErrOverflow if no int represents it.
func Mul(a, b int) (int, api.Errno) {
	if productOverflows(a, b) {
		return 0, api.ErrOverflow
	}
	return a * b, api.OK
}

// productOverflows compares one factor with the quotient of a limit and the other one. Division rounds towards zero, so the quotient is the last factor that does not overflow. The smallest int is divided by positive numbers only: divided by -1 it would overflow.
func productOverflows(a, b int) bool {
	switch {
	case a > 0 && b > 0:
		return a > math.MaxInt/b
	case a < 0 && b < 0:
		return a < math.MaxInt/b
	case a > 0 && b < 0:
		return b < math.MinInt/a
	case a < 0 && b > 0:
		return a < math.MinInt/b
	}
	return false
}

// FloorDiv returns the greatest integer that is not greater than a / b, or ErrArg if b is less than 1.
func FloorDiv(a, b int) (int, api.Errno) {
	if b < 1 {
		return 0, api.ErrArg
	}
	quotient := a / b
	// Division rounds towards zero, which is upwards only if the remainder is negative.
	if a%b < 0 {
		quotient--
	}
	return quotient, api.OK
}

// CeilDiv returns the least integer that is not less than a / b, or ErrArg if b is less than 1.
func CeilDiv(a, b int) (int, api.Errno) {
	if b < 1 {
		return 0, api.ErrArg
	}
	quotient := a / b
	// Division rounds towards zero, which is downwards only if the remainder is positive.
	if a%b > 0 {
		quotient++
	}
	return quotient, api.OK
}

// Mod returns the number from 0 to b - 1 that differs from a by a multiple of b, or 0 if b is less than 1.
func Mod(a, b int) int {
	if b < 1 {
		return 0
	}
	remainder := a % b
	// The remainder has the sign of a, and its absolute value is less than b.
	if remainder < 0 {
		remainder += b
	}
	return remainder
}

// Sqrt returns the greatest integer whose square is not greater than n, or 0 if n is negative.
func Sqrt(n int) int {
	if n < 1 {
		return 0
	}
	root := powerAboveRoot(n)
	// Newton's steps from a number that is not less than the root fall until they reach the root, and never pass below it.
	for {
		next := (root + n/root) / 2
		if next >= root {
			return root
		}
		root = next
	}
}

// powerAboveRoot returns a power of two whose square is greater than n, at most 2^32 so that the sums of Newton's steps cannot overflow.
func powerAboveRoot(n int) int {
	return 1 << ((bits.Len(uint(n)) + 1) / 2)
}

// Gcd returns the greatest common divisor of a and b, where that of 0 and b is b, or ErrArg if one of them is negative.
func Gcd(a, b int) (int, api.Errno) {
	if a < 0 || b < 0 {
		return 0, api.ErrArg
	}
	for b != 0 {
		a, b = b, a%b
	}
	return a, api.OK
}
