package smith

import (
	"sandpile/api"
	"sandpile/matrix"
)

// form is the Smith form of a matrix a: left a right is diagonal.
type form struct {
	diagonal    []api.Int
	left, right api.Matrix
}

// formOf returns the Smith form of any matrix, which is first reduced to a core of full rank. Each transformation is a triangle times the inverse of its matrix, so its numbers have not many more digits than determinants of the matrix.
func formOf(a api.Matrix) form {
	rank := known(matrix.Rank(a))
	left, right, core := unit(a.Rows), unit(a.Cols), a
	if rank < a.Rows {
		left = compression(core)
		core = corner(product(left, core), rank, a.Cols)
	}
	if rank < a.Cols {
		right = transposed(compression(transposed(core)))
		core = corner(product(core, right), rank, rank)
	}
	f := formOfCore(core)
	for len(f.diagonal) < min(a.Rows, a.Cols) {
		f.diagonal = append(f.diagonal, "0")
	}
	f.left = product(extended(f.left, a.Rows), left)
	f.right = product(right, extended(f.right, a.Cols))
	return f
}

// compression returns a unimodular matrix that, times a, has only zeros below as many rows as the rank says.
func compression(a api.Matrix) api.Matrix {
	b := basisOf(a)
	t := triangleOf(b.square, b.pivot, false)
	return b.behind(t.part(0, a.Rows))
}

// formOfCore returns the Smith form of a square matrix whose determinant is not 0.
func formOfCore(a api.Matrix) form {
	t := triangleOf(a, known(matrix.Determinant(a)), true)
	mix := t.mix.part(0, a.Cols)
	return form{
		diagonal: t.diagonal(),
		left:     basisOf(product(a, mix)).behind(t.part(0, a.Cols)),
		right:    product(mix, inverseOf(t.divided())),
	}
}

// corner returns the first rows and columns of a matrix.
func corner(m api.Matrix, rows, cols int) api.Matrix {
	return gridOf(m)[:rows].part(0, cols)
}

// extended returns the matrix with a square at the upper left, and otherwise the unit matrix.
func extended(square api.Matrix, n int) api.Matrix {
	g := gridOf(unit(n))
	for i, row := range gridOf(square) {
		copy(g[i], row)
	}
	return g.part(0, n)
}

// solution returns a solution of the equations whose right sides are b, and whether there is one.
func (f form) solution(b []api.Int) ([]api.Int, bool) {
	x := make([]api.Int, f.right.Rows)
	for i := range x {
		x[i] = "0"
	}
	for i, a := range applied(f.left, b) {
		factor := api.Int("0")
		if i < len(f.diagonal) {
			factor = f.diagonal[i]
		}
		if !divides(factor, a) {
			return nil, false
		}
		if factor != "0" {
			x[i] = quotient(a, factor)
		}
	}
	return applied(f.right, x), true
}
