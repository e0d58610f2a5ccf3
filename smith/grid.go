package smith

import (
	"iter"
	"slices"

	"sandpile/api"
)

// grid has the rows of a matrix, which are changed in their place.
type grid [][]api.Int

// gridOf returns the rows of a matrix.
func gridOf(m api.Matrix) grid {
	g := make(grid, m.Rows)
	for i := range g {
		g[i] = slices.Clone(m.Cells[i*m.Cols : (i+1)*m.Cols])
	}
	return g
}

// part returns the matrix of so many columns, from one on.
func (g grid) part(first, cols int) api.Matrix {
	m := api.Matrix{Rows: len(g), Cols: cols}
	for _, row := range g {
		m.Cells = append(m.Cells, row[first:first+cols]...)
	}
	return m
}

// entries yields the rows from one on that have an entry other than 0 in a column, with this entry.
func (g grid) entries(first, col int) iter.Seq2[int, api.Int] {
	return func(yield func(int, api.Int) bool) {
		for i := first; i < len(g); i++ {
			if a := g[i][col]; a != "0" && !yield(i, a) {
				return
			}
		}
	}
}

// raise exchanges a row with the one from there on that has the least entry other than 0 in a column, and tells whether there is one.
func (g grid) raise(first, col int) bool {
	pivot, least := -1, api.Int("")
	for i, a := range g.entries(first, col) {
		if pivot < 0 || isLess(size(a), least) {
			pivot, least = i, size(a)
		}
	}
	if pivot < 0 {
		return false
	}
	g[first], g[pivot] = g[pivot], g[first]
	return true
}
