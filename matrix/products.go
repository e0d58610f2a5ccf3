package matrix

import (
	"iter"

	"sandpile/api"
	"sandpile/integer"
)

// Add returns the sum.
func Add(a, b api.Matrix) (api.Matrix, api.Errno) {
	if e := checkTwo(a, b); e != api.OK {
		return api.Matrix{}, e
	}
	if a.Rows != b.Rows || a.Cols != b.Cols {
		return api.Matrix{}, api.ErrShape
	}
	return computed(a.Rows, a.Cols, func(row, col int) (api.Int, api.Errno) {
		return integer.Add(at(a, row, col), at(b, row, col))
	})
}

// Product returns the product.
func Product(a, b api.Matrix) (api.Matrix, api.Errno) {
	if e := checkTwo(a, b); e != api.OK {
		return api.Matrix{}, e
	}
	if a.Cols != b.Rows {
		return api.Matrix{}, api.ErrShape
	}
	return computed(a.Rows, b.Cols, func(row, col int) (api.Int, api.Errno) {
		return sumOfProducts(a.Cols, func(i int) (api.Int, api.Int) {
			return at(a, row, i), at(b, i, col)
		})
	})
}

// Apply returns the product with a column of integers.
func Apply(m api.Matrix, l []api.Int) ([]api.Int, api.Errno) {
	if e := Check(m); e != api.OK {
		return nil, e
	}
	if m.Cols != len(l) {
		return nil, api.ErrShape
	}
	if e := checkAll(l); e != api.OK {
		return nil, e
	}
	image := make([]api.Int, 0, m.Rows)
	for row := range rowsOf(m) {
		a, e := sumOfProducts(m.Cols, func(i int) (api.Int, api.Int) {
			return row[i], l[i]
		})
		if e != api.OK {
			return nil, e
		}
		image = append(image, a)
	}
	return image, api.OK
}

// sumOfProducts adds the products of n pairs.
func sumOfProducts(n int, pair func(i int) (api.Int, api.Int)) (api.Int, api.Errno) {
	products := make([]api.Int, 0, n)
	for i := range n {
		product, e := integer.Mul(pair(i))
		if e != api.OK {
			return "", e
		}
		products = append(products, product)
	}
	// Only the whole sum may be too long: Sum permits longer ones on the way.
	return integer.Sum(products)
}

// rowsOf yields the rows of a right matrix. They are parts of it, so they may only be read.
func rowsOf(m api.Matrix) iter.Seq[[]api.Int] {
	return func(yield func([]api.Int) bool) {
		for row := range m.Rows {
			if !yield(m.Cells[row*m.Cols : (row+1)*m.Cols]) {
				return
			}
		}
	}
}
