// Package numbers: secret and public numbers, and what they share.
package numbers

import "pawl/api"

// IsSecret tells whether a number may be a secret one.
func IsSecret(x int) bool { return x >= 1 && x <= api.P-2 }

// IsPublic tells whether a number may be a public one.
func IsPublic(y int) bool { return y >= 1 && y <= api.P-1 }

// Public tells the public number of a secret one.
func Public(x int) int { return power(api.Base, x) }

// Shared tells what a secret number shares with a public one.
func Shared(x int, y int) int { return power(y, x) }

// power tells a number to the power of another, modulo P.
// It goes by the exponent's bits: step by step it would take two thousand million steps.
func power(base int, exponent int) int {
	// An int may have 32 bits, and a product here needs 62.
	result := int64(1)
	square := int64(base)
	for rest := exponent; rest > 0; rest = rest / 2 {
		if rest%2 == 1 {
			result = result * square % api.P
		}
		square = square * square % api.P
	}
	return int(result)
}
