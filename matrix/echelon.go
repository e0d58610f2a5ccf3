package matrix

import (
	"slices"

	"sandpile/api"
	"sandpile/integer"
)

// Determinant returns the determinant.
func Determinant(m api.Matrix) (api.Int, api.Errno) {
	if e := Check(m); e != api.OK {
		return "", e
	}
	if m.Rows != m.Cols {
		return "", api.ErrShape
	}
	form, e := echelonOf(m)
	switch {
	case e != api.OK:
		return "", e
	case form.rank < m.Rows:
		return "0", api.OK
	case form.odd:
		return integer.Neg(form.pivot)
	}
	return form.pivot, api.OK
}

// Rank returns the rank.
func Rank(m api.Matrix) (int, api.Errno) {
	if e := Check(m); e != api.OK {
		return 0, e
	}
	form, e := echelonOf(m)
	if e != api.OK {
		return 0, e
	}
	return form.rank, api.OK
}

// echelon is a matrix on its way to the echelon form, without fractions (by Bareiss): each entry below the first rank rows is a minor of the matrix, up to its sign, so it does not become longer than the determinant may be.
type echelon struct {
	rows  [][]api.Int
	rank  int
	pivot api.Int // the last one
	odd   bool    // whether rows were exchanged an odd number of times
}

// echelonOf returns the echelon form, or ErrLarge.
func echelonOf(m api.Matrix) (echelon, api.Errno) {
	form := echelon{pivot: "1"}
	for row := range rowsOf(m) {
		form.rows = append(form.rows, slices.Clone(row))
	}
	for col := range m.Cols {
		if !form.raise(col) {
			continue
		}
		if e := form.clear(col); e != api.OK {
			return echelon{}, e
		}
	}
	return form, api.OK
}

// raise brings a row with an entry other than 0 in a column up to the next place, and tells whether there is one.
func (m *echelon) raise(col int) bool {
	for i := m.rank; i < len(m.rows); i++ {
		if m.rows[i][col] == "0" {
			continue
		}
		if i > m.rank {
			m.rows[i], m.rows[m.rank] = m.rows[m.rank], m.rows[i]
			m.odd = !m.odd
		}
		return true
	}
	return false
}

// clear makes the entries of a column 0 below the row that was raised.
func (m *echelon) clear(col int) api.Errno {
	top := m.rows[m.rank]
	for _, row := range m.rows[m.rank+1:] {
		factor := row[col]
		for k := col; k < len(row); k++ {
			a, e := crossed(top[col], row[k], factor, top[k])
			if e != api.OK {
				return e
			}
			row[k], _ = integer.Quo(a, m.pivot)
		}
	}
	m.pivot = top[col]
	m.rank++
	return api.OK
}

// crossed returns a b - c d.
func crossed(a, b, c, d api.Int) (api.Int, api.Errno) {
	first, e := integer.Mul(a, b)
	if e != api.OK {
		return "", e
	}
	second, e := integer.Mul(c, d)
	if e != api.OK {
		return "", e
	}
	return integer.Sub(first, second)
}
