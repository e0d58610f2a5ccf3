package smith_test

import (
	"math"
	"math/big"
	"math/rand"
	"slices"
	"strings"
	"testing"

	"sandpile/api"
	"sandpile/matrix"
)

var (
	// longest is the greatest integer that is not too long.
	longest = api.Int(strings.Repeat("9", api.MaxLong))
	none    = api.Matrix{}
)

// of returns a matrix of integers, row by row.
func of(rows, cols int, cells ...api.Int) api.Matrix {
	return api.Matrix{Rows: rows, Cols: cols, Cells: cells}
}

// ints returns a matrix of ints, row by row.
func ints(rows, cols int, l ...int) api.Matrix {
	return of(rows, cols, list(l...)...)
}

// list returns ints as integers.
func list(l ...int) []api.Int {
	out := []api.Int{}
	for _, n := range l {
		out = append(out, integerOf(big.NewInt(int64(n))))
	}
	return out
}

// filled returns a matrix with the same integer everywhere.
func filled(rows, cols int, a api.Int) api.Matrix {
	return of(rows, cols, slices.Repeat([]api.Int{a}, rows*cols)...)
}

// unit returns the unit matrix.
func unit(n int) api.Matrix {
	m, _ := matrix.Unit(n)
	return m
}

// integerOf returns a number of package big as an integer.
func integerOf(n *big.Int) api.Int { return api.Int(n.String()) }

// numberOf returns an integer as a number of package big.
func numberOf(a api.Int) *big.Int {
	n, _ := new(big.Int).SetString(string(a), 10)
	return n
}

// random returns a matrix of integers of at most so many digits.
func random(r *rand.Rand, rows, cols, digits int) api.Matrix {
	m := of(rows, cols)
	bound := new(big.Int).Exp(big.NewInt(10), big.NewInt(int64(digits)), nil)
	for range rows * cols {
		n := new(big.Int).Rand(r, bound)
		if r.Intn(2) == 0 {
			n.Neg(n)
		}
		m.Cells = append(m.Cells, integerOf(n))
	}
	return m
}

// low returns a random matrix of at most so great a rank, whose entries have at most so many digits.
func low(r *rand.Rand, rows, cols, rank, digits int) api.Matrix {
	left, right := random(r, rows, rank, (digits-1)/2), random(r, rank, cols, digits-1-(digits-1)/2)
	return back(times(reference(left), reference(right), cols), cols)
}

// steps returns a unimodular matrix, by so many random steps of elimination.
func steps(r *rand.Rand, n, count int) numbers {
	m := reference(unit(n))
	for range count {
		i, k := r.Intn(n), r.Intn(n)
		if i == k {
			for _, a := range m[i] {
				a.Neg(a)
			}
			continue
		}
		factor := big.NewInt(int64(r.Intn(7) - 3))
		for col, a := range m[i] {
			a.Add(a, new(big.Int).Mul(factor, m[k][col]))
		}
	}
	return m
}

// hidden returns a matrix with a form: a diagonal between two unimodular matrices.
func hidden(r *rand.Rand, rows, cols int, d []api.Int, count int) api.Matrix {
	middle := reference(filled(rows, cols, "0"))
	for i, a := range d {
		middle[i][i] = numberOf(a)
	}
	return back(times(times(steps(r, rows, count), middle, cols), steps(r, cols, count), cols), cols)
}

// wrong lists matrices that are not right, each with the error of matrix.Check.
func wrong() map[string]struct {
	m api.Matrix
	e api.Errno
} {
	type row = struct {
		m api.Matrix
		e api.Errno
	}
	beyond := longest + "0"
	return map[string]row{
		"rows": {of(-1, 0), api.ErrRange}, "columns": {of(0, 17), api.ErrRange}, "both": {of(math.MaxInt, math.MaxInt), api.ErrRange}, "range first": {of(17, 1, "x"), api.ErrRange},
		"cells": {of(1, 1), api.ErrShape}, "no cells": {of(0, 0, "1"), api.ErrShape}, "shape first": {of(2, 2, "x"), api.ErrShape},
		"empty": {of(1, 1, ""), api.ErrForm}, "zero": {of(2, 2, "1", "0", "0", "-0"), api.ErrForm}, "long": {of(1, 1, beyond), api.ErrLarge}, "form first": {of(1, 2, "x", beyond), api.ErrForm}, "long first": {of(1, 2, beyond, "x"), api.ErrLarge},
	}
}

// numbers are the rows of a matrix of package big.
type numbers [][]*big.Int

// reference returns a matrix with numbers of package big.
func reference(m api.Matrix) numbers {
	n := make(numbers, m.Rows)
	for i, a := range m.Cells {
		n[i/m.Cols] = append(n[i/m.Cols], numberOf(a))
	}
	return n
}

// back returns a matrix of integers.
func back(n numbers, cols int) api.Matrix {
	m := of(len(n), cols)
	for _, row := range n {
		for _, a := range row {
			m.Cells = append(m.Cells, integerOf(a))
		}
	}
	return m
}

// times returns a product.
func times(a, b numbers, cols int) numbers {
	n := make(numbers, len(a))
	for i, row := range a {
		for col := range cols {
			total := new(big.Int)
			for k, factor := range row {
				total.Add(total, new(big.Int).Mul(factor, b[k][col]))
			}
			n[i] = append(n[i], total)
		}
	}
	return n
}

// determinant works with fractions.
func (n numbers) determinant() *big.Int {
	rows := make([][]*big.Rat, len(n))
	for i, row := range n {
		for _, a := range row {
			rows[i] = append(rows[i], new(big.Rat).SetInt(a))
		}
	}
	total := big.NewRat(1, 1)
	for k := range rows {
		pivot := k
		for pivot < len(rows) && rows[pivot][k].Sign() == 0 {
			pivot++
		}
		if pivot == len(rows) {
			return new(big.Int)
		}
		if pivot > k {
			rows[k], rows[pivot] = rows[pivot], rows[k]
			total.Neg(total)
		}
		total.Mul(total, rows[k][k])
		for i := k + 1; i < len(rows); i++ {
			factor := new(big.Rat).Quo(rows[i][k], rows[k][k])
			for j := k; j < len(rows); j++ {
				rows[i][j].Sub(rows[i][j], new(big.Rat).Mul(factor, rows[k][j]))
			}
		}
	}
	return new(big.Int).Set(total.Num())
}

// divisor returns the greatest common divisor of all determinants of k rows and k columns.
func (n numbers) divisor(cols, k int) *big.Int {
	total := new(big.Int)
	for _, r := range choices(len(n), k) {
		for _, c := range choices(cols, k) {
			part := make(numbers, k)
			for i, row := range r {
				for _, col := range c {
					part[i] = append(part[i], n[row][col])
				}
			}
			total.GCD(nil, nil, total, new(big.Int).Abs(part.determinant()))
		}
	}
	return total
}

// choices returns all ascending lists of k numbers below n.
func choices(n, k int) [][]int {
	if k == 0 {
		return [][]int{{}}
	}
	l := [][]int{}
	for last := k - 1; last < n; last++ {
		for _, c := range choices(last, k-1) {
			l = append(l, append(c, last))
		}
	}
	return l
}

// diagonalOf returns the Smith form by its determinantal divisors.
func diagonalOf(m api.Matrix) []api.Int {
	d, last := []api.Int{}, big.NewInt(1)
	for k := 1; k <= min(m.Rows, m.Cols); k++ {
		next := reference(m).divisor(m.Cols, k)
		if last.Sign() == 0 || next.Sign() == 0 {
			d, last = append(d, "0"), new(big.Int)
			continue
		}
		d = append(d, integerOf(new(big.Int).Quo(next, last)))
		last = next
	}
	return d
}

// digits returns how many digits the longest of all integers has.
func digits(lists ...[]api.Int) int {
	most := 0
	for _, l := range lists {
		for _, a := range l {
			most = max(most, len(strings.TrimPrefix(string(a), "-")))
		}
	}
	return most
}

// isForm reports transformations that do not bring a matrix to a diagonal, with package big.
func isForm(t *testing.T, a api.Matrix, d []api.Int, u, v api.Matrix) {
	t.Helper()
	if matrix.Check(u) != api.OK || matrix.Check(v) != api.OK || u.Rows != a.Rows || u.Cols != a.Rows || v.Rows != a.Cols || v.Cols != a.Cols || len(d) != min(a.Rows, a.Cols) {
		t.Fatalf("the form of %v does not fit: %v, %v, %v", a, d, u, v)
	}
	for _, m := range []api.Matrix{u, v} {
		if reference(m).determinant().CmpAbs(big.NewInt(1)) != 0 {
			t.Errorf("for %v, %v is not unimodular", a, m)
		}
	}
	last := big.NewInt(1)
	for _, x := range d {
		n := numberOf(x)
		if n.Sign() < 0 || last.Sign() == 0 && n.Sign() != 0 || last.Sign() != 0 && new(big.Int).Rem(n, last).Sign() != 0 {
			t.Errorf("%v has the form %v", a, d)
		}
		last = n
	}
	for i, row := range times(times(reference(u), reference(a), a.Cols), reference(v), a.Cols) {
		for k, x := range row {
			if i == k && integerOf(x) != d[i] || i != k && x.Sign() != 0 {
				t.Errorf("for %v, %v and %v do not prove %v", a, u, v, d)
			}
		}
	}
}
