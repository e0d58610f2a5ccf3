package smith

import "sandpile/api"

// triangle is a square matrix on its way to an upper triangle, with the transformation of its columns.
//
// Its rows are kept small by a modulus: before the step k, the lattice of the rows has all multiples of the modulus at the places from k on (with zeros before them), so entries there may be replaced by their residues.
type triangle struct {
	grid
	mix     grid
	modulus api.Int
}

// triangleOf returns an upper triangle whose rows have the same lattice as those of m times mix; the determinant of m, or its opposite, is other than 0. If it is conditioned, each entry of the diagonal divides all entries behind it and below; otherwise mix is the unit matrix.
func triangleOf(m api.Matrix, determinant api.Int, conditioned bool) triangle {
	t := triangle{gridOf(m), gridOf(unit(m.Rows)), size(determinant)}
	for k := range t.grid {
		if conditioned {
			t.condition(k)
		}
		t.clear(k)
	}
	t.lower()
	return t
}

// condition adds multiples of the columns behind it to the column k, until its entries from the row k on have, together with the modulus, no more common divisors than the whole matrix has from there on.
func (t *triangle) condition(k int) {
	for j := k + 1; j < len(t.grid); j++ {
		least := common(t.content(k, k), t.content(k, j))
		for t.content(k, k) != least {
			t.columns(func(row []api.Int) { row[k] = sum(row[k], row[j]) })
		}
	}
}

// content returns the greatest common divisor of the modulus and the entries of a column from a row on.
func (t *triangle) content(first, col int) api.Int {
	divisor := t.modulus
	for _, a := range t.entries(first, col) {
		divisor = common(divisor, a)
	}
	return divisor
}

// columns keeps the transformation in step with the matrix: a step that changes columns is taken in all rows of both.
func (t *triangle) columns(step func(row []api.Int)) {
	for _, g := range [2]grid{t.grid, t.mix} {
		for _, row := range g {
			step(row)
		}
	}
}

// clear makes the entries of the column k below the row k 0, and the entry of the row k a divisor of the modulus.
func (t *triangle) clear(k int) {
	t.raise(k, k)
	for i, a := range t.entries(k+1, k) {
		divisor, x, y := bezout(t.grid[k][k], a)
		p, q := quotient(t.grid[k][k], divisor), quotient(a, divisor)
		t.rows(k, i, func(a, b api.Int) (api.Int, api.Int) {
			return sum(times(x, a), times(y, b)), difference(times(p, b), times(q, a))
		})
	}
	divisor, x, _ := bezout(t.grid[k][k], t.modulus)
	t.rows(k, k, func(a, _ api.Int) (api.Int, api.Int) {
		return times(x, a), times(x, a)
	})
	t.grid[k][k] = divisor
	t.modulus = quotient(t.modulus, divisor)
}

// rows replaces the entries of two rows, from the column k on, by the residues of those that a step computes from them.
func (t *triangle) rows(k, i int, step func(a, b api.Int) (api.Int, api.Int)) {
	for j := k; j < len(t.grid); j++ {
		a, b := step(t.grid[k][j], t.grid[i][j])
		t.grid[k][j], t.grid[i][j] = remainder(a, t.modulus), remainder(b, t.modulus)
	}
}

// lower reduces the entries above the diagonal by the rows below.
func (t *triangle) lower() {
	for i := len(t.grid) - 1; i >= 0; i-- {
		row := t.grid[i]
		for k := i + 1; k < len(row); k++ {
			factor := quotient(row[k], t.grid[k][k])
			for j := k; j < len(row); j++ {
				row[j] = difference(row[j], times(factor, t.grid[k][j]))
			}
		}
	}
}

// diagonal returns the entries of the diagonal.
func (t *triangle) diagonal() []api.Int {
	l := make([]api.Int, len(t.grid))
	for i, row := range t.grid {
		l[i] = row[i]
	}
	return l
}

// divided returns the triangle with each row divided by its entry of the diagonal.
func (t *triangle) divided() api.Matrix {
	m := t.grid.part(0, len(t.grid))
	for i, a := range m.Cells {
		m.Cells[i] = quotient(a, t.grid[i/m.Cols][i/m.Cols])
	}
	return m
}
