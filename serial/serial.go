// Package serial calculates with sequence numbers that wrap around.
package serial

const maxModulus = 1 << 30

// Next returns the successor of n modulo m.
func Next(n, m int) int {
	m = limit(m)
	return (residue(n, m) + 1) % m
}

// Dist returns how many times Next must be applied to get from a to b.
func Dist(a, b, m int) int {
	m = limit(m)
	// The difference of a and b themselves could overflow; that of their residues cannot.
	return residue(residue(b, m)-residue(a, m), m)
}

// In reports whether x is one of the n sequence numbers that begin with low.
func In(x, low, n, m int) bool {
	return Dist(low, x, m) < n
}

// limit returns the modulus that m stands for.
func limit(m int) int {
	return min(max(m, 1), maxModulus)
}

// residue returns the sequence number to which n is congruent modulo m.
func residue(n, m int) int {
	r := n % m
	// The remainder has the sign of n, a sequence number has none.
	if r < 0 {
		r += m
	}
	return r
}
