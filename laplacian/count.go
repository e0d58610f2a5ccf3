package laplacian

import (
	"sandpile/api"
	"sandpile/contract"
	"sandpile/integer"
	"sandpile/matrix"
)

// Trees returns the number of spanning trees.
func Trees(g api.Graph) (api.Int, api.Errno) { return Cofactor(g, 0, 0) }

// Cofactor returns the signed minor of the Laplacian without a row and a column.
func Cofactor(g api.Graph, row, col int) (api.Int, api.Errno) {
	m, err := without(g, row, col)
	if err != api.OK {
		return "", err
	}
	minor, err := matrix.Determinant(m)
	if err != api.OK || (row+col)%2 == 0 {
		return minor, err
	}
	return integer.Neg(minor)
}

// With returns the number of spanning trees that have a single edge.
func With(g api.Graph, e int) (api.Int, api.Errno) {
	rest, err := contract.Delete(g, e)
	if err != api.OK {
		return "", err
	}
	all, err := Trees(g)
	if err != api.OK {
		return "", err
	}
	others, err := Trees(rest)
	if err != api.OK {
		return "", err
	}
	return integer.Sub(all, others)
}
