package lattice

import (
	"slices"

	"sandpile/api"
	"sandpile/matrix"
	"sandpile/smith"
)

// Product returns the product of two vectors.
func Product(x, y []int) (int, api.Errno) {
	if err := checkVectors([][]int{x, y}); err != api.OK {
		return 0, err
	}
	return product(x, y), api.OK
}

// checkVectors returns the error of the first vector with one.
func checkVectors(l [][]int) api.Errno {
	for _, x := range l {
		if len(x) > api.MaxEvents {
			return api.ErrMany
		}
		if err := checkInts(x, len(l[0])); err != api.OK {
			return err
		}
	}
	return api.OK
}

// product returns the sum of the products of the elements of two vectors of the same length.
func product(x, y []int) int {
	sum := 0
	for i, n := range x {
		sum += n * y[i]
	}
	return sum
}

// Gram returns the matrix of the products of all pairs of vectors.
func Gram(l [][]int) (api.Matrix, api.Errno) {
	if len(l) > api.MaxSide {
		return api.Matrix{}, api.ErrMany
	}
	if err := checkVectors(l); err != api.OK {
		return api.Matrix{}, err
	}
	rows := mapped(l, func(x []int) []int {
		return mapped(l, func(y []int) int { return product(x, y) })
	})
	return matrix.Make(len(l), len(l), slices.Concat(rows...))
}

// Discriminant returns the elements greater than 1 of the Smith form of the Gram matrix.
func Discriminant(l [][]int) ([]api.Int, api.Errno) {
	m, err := Gram(l)
	if err != api.OK {
		return nil, err
	}
	determinant, err := matrix.Determinant(m)
	if err != api.OK {
		return nil, err
	}
	if determinant == "0" {
		return nil, api.ErrZero
	}
	diagonal, err := smith.Diagonal(m)
	if err != api.OK {
		return nil, err
	}
	return slices.DeleteFunc(diagonal, func(d api.Int) bool { return d == "1" }), api.OK
}
