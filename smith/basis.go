package smith

import "sandpile/api"

// basis is a square matrix with its inverse of fractions.
type basis struct {
	square   api.Matrix
	pivot    api.Int    // the determinant of the square, or its opposite
	multiple api.Matrix // the inverse of the square, times the pivot
}

// basisOf returns the first columns that are linearly independent of a matrix with the unit matrix behind it.
func basisOf(a api.Matrix) basis {
	given, g := besideUnit(a), besideUnit(a)
	square := make(grid, a.Rows)
	pivot, rank := api.Int("1"), 0
	for col := 0; rank < a.Rows; col++ {
		if !g.raise(rank, col) {
			continue
		}
		for i := range given {
			square[i] = append(square[i], given[i][col])
		}
		pivot = g.clear(rank, col, pivot)
		rank++
	}
	return basis{square.part(0, a.Rows), pivot, g.part(a.Cols, a.Rows)}
}

// besideUnit returns the rows of a matrix with the unit matrix behind it.
func besideUnit(a api.Matrix) grid {
	g := gridOf(a)
	for i, row := range gridOf(unit(a.Rows)) {
		g[i] = append(g[i], row...)
	}
	return g
}

// clear makes all entries of a column 0 but that of one row, without fractions (by Bareiss and Jordan), and returns this entry; last is the one of the step before. All entries are minors of the matrix, up to their signs, so they do not become long.
func (g grid) clear(top, col int, last api.Int) api.Int {
	pivot := g[top][col]
	for i, row := range g {
		if i == top {
			continue
		}
		factor := row[col]
		for k := range row {
			row[k] = quotient(difference(times(pivot, row[k]), times(factor, g[top][k])), last)
		}
	}
	return pivot
}

// behind returns a matrix times the inverse of the square, where the product has to consist of integers.
func (b basis) behind(m api.Matrix) api.Matrix {
	multiple := product(m, b.multiple)
	for i, a := range multiple.Cells {
		multiple.Cells[i] = quotient(a, b.pivot)
	}
	return multiple
}

// inverseOf returns the inverse of a unimodular matrix.
func inverseOf(m api.Matrix) api.Matrix {
	return basisOf(m).behind(unit(m.Rows))
}
