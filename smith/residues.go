package smith

import (
	"iter"

	"sandpile/api"
	"sandpile/integer"
)

// The proofs of a form may have numbers so long that their products and determinants are no integers of layer 1. So equations between them are checked for their residues by so many primes that nothing else fulfils all of them.

// primeDigits is how many digits a prime adds to the numbers that residues tell apart.
const primeDigits = 6

// primes yields the least primes of more than primeDigits digits, so many that two numbers with at most so many digits are equal if their residues are.
func primes(digits int) iter.Seq[int] {
	return func(yield func(int) bool) {
		missing := digits/primeDigits + 1
		for p := 1_000_003; missing > 0; p += 2 {
			if !isPrime(p) {
				continue
			}
			if !yield(p) {
				return
			}
			missing--
		}
	}
}

// isPrime tells whether an odd number is a prime.
func isPrime(n int) bool {
	for d := 3; d*d <= n; d += 2 {
		if n%d == 0 {
			return false
		}
	}
	return true
}

// residue returns the remainder of an integer by a prime.
func residue(a api.Int, p int) int {
	rest, _ := integer.Rem(a, integer.Of(p))
	n, _ := integer.Small(rest)
	return n
}

// residues returns the rows of the residues of a matrix.
func residues(m api.Matrix, p int) [][]int {
	rows := make([][]int, m.Rows)
	for i, a := range m.Cells {
		rows[i/m.Cols] = append(rows[i/m.Cols], residue(a, p))
	}
	return rows
}

// isUnimodular tells whether a square matrix has the determinant 1 or -1.
func isUnimodular(m api.Matrix) bool {
	digits := 0
	for _, row := range gridOf(m) {
		// A determinant is at most the product of the sums of the sizes in each row, which have at most 16 elements.
		digits += longest(row) + 2
	}
	positive, negative := true, true
	for p := range primes(digits) {
		determinant := determinantOf(residues(m, p), p)
		positive = positive && determinant == 1
		negative = negative && determinant == p-1
		if !positive && !negative {
			return false
		}
	}
	return true
}

// determinantOf returns the residue of the determinant of a matrix of residues, which it changes.
func determinantOf(rows [][]int, p int) int {
	determinant := 1
	for k := range rows {
		pivot := k
		for pivot < len(rows) && rows[pivot][k] == 0 {
			pivot++
		}
		if pivot == len(rows) {
			return 0
		}
		if pivot > k {
			rows[k], rows[pivot] = rows[pivot], rows[k]
			determinant = p - determinant
		}
		determinant = determinant * rows[k][k] % p
		inverse := power(rows[k][k], p-2, p)
		for _, row := range rows[k+1:] {
			factor := p - row[k]*inverse%p
			for j := k; j < len(row); j++ {
				row[j] = (row[j] + factor*rows[k][j]) % p
			}
		}
	}
	return determinant
}

// power returns the residue of a power.
func power(a, exponent, p int) int {
	result := 1
	for ; exponent > 0; exponent /= 2 {
		if exponent%2 == 1 {
			result = result * a % p
		}
		a = a * a % p
	}
	return result
}

// isDiagonal tells whether u a v has d on its diagonal, and otherwise 0.
func isDiagonal(a api.Matrix, d []api.Int, u, v api.Matrix) bool {
	// An entry of the product is a sum of at most 256 products.
	digits := max(longest(u.Cells)+longest(a.Cells)+longest(v.Cells)+3, longest(d))
	for p := range primes(digits) {
		for i, row := range productOf(productOf(residues(u, p), residues(a, p), p), residues(v, p), p) {
			for k, entry := range row {
				if i != k && entry != 0 || i == k && entry != residue(d[i], p) {
					return false
				}
			}
		}
	}
	return true
}

// productOf returns the product of two matrices of residues.
func productOf(a, b [][]int, p int) [][]int {
	rows := make([][]int, len(a))
	for i, row := range a {
		if len(b) > 0 {
			rows[i] = make([]int, len(b[0]))
		}
		for j, factor := range row {
			for k, entry := range b[j] {
				rows[i][k] = (rows[i][k] + factor*entry) % p
			}
		}
	}
	return rows
}
