package matrix_test

import (
	"math"
	"math/big"
	"math/rand"
	"slices"
	"strings"
	"testing"

	"sandpile/api"
	"sandpile/matrix"
)

var (
	// longest is the greatest integer that is not too long.
	longest = api.Int(strings.Repeat("9", api.MaxLong))
	none    = api.Matrix{}
)

// of returns a matrix of integers, row by row.
func of(rows, cols int, cells ...api.Int) api.Matrix {
	return api.Matrix{Rows: rows, Cols: cols, Cells: cells}
}

// ints returns a matrix of ints, row by row.
func ints(rows, cols int, l ...int) api.Matrix {
	m := of(rows, cols)
	for _, n := range l {
		m.Cells = append(m.Cells, api.Int(big.NewInt(int64(n)).String()))
	}
	return m
}

// filled returns a matrix with the same integer everywhere.
func filled(rows, cols int, a api.Int) api.Matrix {
	return of(rows, cols, slices.Repeat([]api.Int{a}, rows*cols)...)
}

// random returns a matrix of integers of at most so many digits, some of them 0.
func random(r *rand.Rand, rows, cols, digits int) api.Matrix {
	m := of(rows, cols)
	bound := new(big.Int).Exp(big.NewInt(10), big.NewInt(int64(digits)), nil)
	for range rows * cols {
		n := new(big.Int).Rand(r, bound)
		switch r.Intn(6) {
		case 0:
			n.SetInt64(0)
		case 1, 2, 3:
			n.Neg(n)
		}
		m.Cells = append(m.Cells, api.Int(n.String()))
	}
	return m
}

// wrong lists matrices that are not right, each with the error of Check.
func wrong() []struct {
	m api.Matrix
	e api.Errno
} {
	beyond := longest + "0"
	return []struct {
		m api.Matrix
		e api.Errno
	}{
		{of(-1, 0), api.ErrRange}, {of(0, -1), api.ErrRange}, {of(-1, -1, "1"), api.ErrRange},
		{filled(api.MaxSide+1, 1, "0"), api.ErrRange}, {filled(1, api.MaxSide+1, "0"), api.ErrRange}, {of(api.MaxSide+1, 0), api.ErrRange},
		{of(math.MaxInt, math.MaxInt), api.ErrRange}, {of(math.MinInt, 2), api.ErrRange}, {of(1<<32, 1<<32), api.ErrRange},
		// The range comes before the number of cells, and this before the cells.
		{of(17, 2, "1"), api.ErrRange}, {of(2, 17, "x"), api.ErrRange},
		{of(1, 1), api.ErrShape}, {of(0, 0, "1"), api.ErrShape}, {of(2, 0, "1"), api.ErrShape}, {of(2, 2, "1", "2", "3"), api.ErrShape}, {of(2, 2, "1", "2", "3", "4", "5"), api.ErrShape},
		{of(1, 2, "x"), api.ErrShape}, {of(1, 2, beyond), api.ErrShape},
		{of(1, 1, ""), api.ErrForm}, {of(1, 1, "-0"), api.ErrForm}, {of(2, 2, "1", "2", "3", "04"), api.ErrForm}, {of(2, 1, "+1", "1"), api.ErrForm},
		{of(1, 1, beyond), api.ErrLarge}, {of(2, 2, "1", "2", "3", "-"+beyond), api.ErrLarge},
		// The first cell with an error counts.
		{of(1, 2, "x", beyond), api.ErrForm}, {of(1, 2, beyond, "x"), api.ErrLarge}, {of(2, 1, "1", "x"), api.ErrForm},
		{of(16, 16, append(slices.Repeat([]api.Int{"1"}, 255), "?")...), api.ErrForm},
	}
}

// numbers are the rows of a matrix of package big.
type numbers [][]*big.Int

// reference returns a matrix with numbers of package big.
func reference(m api.Matrix) numbers {
	n := make(numbers, m.Rows)
	for i, a := range m.Cells {
		number, _ := new(big.Int).SetString(string(a), 10)
		n[i/m.Cols] = append(n[i/m.Cols], number)
	}
	return n
}

// part returns some rows and columns.
func (n numbers) part(rows, cols []int) numbers {
	p := make(numbers, len(rows))
	for i, row := range rows {
		for _, col := range cols {
			p[i] = append(p[i], n[row][col])
		}
	}
	return p
}

// determinant follows the definition, by the first row.
func (n numbers) determinant() *big.Int {
	if len(n) == 0 {
		return big.NewInt(1)
	}
	total := new(big.Int)
	for col, a := range n[0] {
		minor := n.part(except(len(n), 0), except(len(n), col)).determinant()
		minor.Mul(minor, a)
		if col%2 == 1 {
			minor.Neg(minor)
		}
		total.Add(total, minor)
	}
	return total
}

// except returns the numbers below n but one.
func except(n, out int) []int {
	l := []int{}
	for i := range n {
		if i != out {
			l = append(l, i)
		}
	}
	return l
}

// rank follows the definition: it tries all rows and columns.
func (n numbers) rank(cols int) int {
	for k := min(len(n), cols); k > 0; k-- {
		for _, r := range choices(len(n), k) {
			for _, c := range choices(cols, k) {
				if n.part(r, c).determinant().Sign() != 0 {
					return k
				}
			}
		}
	}
	return 0
}

// choices returns all ascending lists of k numbers below n.
func choices(n, k int) [][]int {
	if k == 0 {
		return [][]int{{}}
	}
	l := [][]int{}
	for last := k - 1; last < n; last++ {
		for _, c := range choices(last, k-1) {
			l = append(l, append(c, last))
		}
	}
	return l
}

// fails reports a matrix that is not the zero value beside an error.
func fails(t *testing.T, what string, got api.Matrix, e, want api.Errno) {
	t.Helper()
	if !matrix.Same(got, none) || e != want {
		t.Errorf("%s: %v, %d instead of the error %d", what, got, e, want)
	}
}

// same reports a matrix that is not the one wanted.
func same(t *testing.T, what string, got api.Matrix, e api.Errno, want api.Matrix) {
	t.Helper()
	if got.Rows != want.Rows || got.Cols != want.Cols || !slices.Equal(got.Cells, want.Cells) || e != api.OK {
		t.Errorf("%s: %v, %d instead of %v", what, got, e, want)
	}
}

// must returns a right matrix that has no error.
func must(t *testing.T) func(api.Matrix, api.Errno) api.Matrix {
	return func(m api.Matrix, e api.Errno) api.Matrix {
		t.Helper()
		if e != api.OK || matrix.Check(m) != api.OK {
			t.Fatalf("%v with the error %d", m, e)
		}
		return m
	}
}
