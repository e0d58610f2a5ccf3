package lattice

import (
	"sandpile/api"
	"sandpile/fraction"
	"sandpile/integer"
	"sandpile/laplacian"
)

// Split returns the part of a vector in the space of cycles, and the one in the space of cuts.
func Split(g api.Graph, x []int) ([]api.Frac, []api.Frac, api.Errno) {
	ends, err := vectorEnds(g, x)
	if err != api.OK {
		return nil, nil, err
	}
	var c calculation
	// A vector and its part in the space of cuts have the same boundary, as cycles have none.
	f := c.potential(g, boundary(g.N, ends, x))
	cut := mapped(ends, func(e [2]int) api.Frac { return c.of(fraction.Sub, f[e[1]], f[e[0]]) })
	cycle := mapped(x, func(n int) api.Frac { return whole(integer.Of(n)) })
	for e := range cycle {
		cycle[e] = c.of(fraction.Sub, cycle[e], cut[e])
	}
	if c.err != api.OK {
		return nil, nil, c.err
	}
	return cycle, cut, api.OK
}

// whole returns an integer as a fraction.
func whole(n api.Int) api.Frac { return api.Frac{Num: n, Den: "1"} }

// calculation has the first error of operations that follow each other.
type calculation struct{ err api.Errno }

// of returns the result of an operation, or 0 behind an error.
func (c *calculation) of(operation func(a, b api.Frac) (api.Frac, api.Errno), a, b api.Frac) api.Frac {
	if c.err != api.OK {
		return whole("0")
	}
	result, err := operation(a, b)
	c.err = err
	return result
}

// potential returns the potential that is 0 at the vertex 0, and whose coboundary has the boundary d.
func (c *calculation) potential(g api.Graph, d []int) []api.Frac {
	rows := c.equations(g, d)
	n := len(rows)
	divide := func(row int) {
		by := rows[row][row]
		rows[row] = mapped(rows[row], func(a api.Frac) api.Frac { return c.of(fraction.Div, a, by) })
	}
	subtract := func(row, from int) {
		times := rows[from][row]
		for col := row; col <= n; col++ {
			rows[from][col] = c.of(fraction.Sub, rows[from][col], c.of(fraction.Mul, times, rows[row][col]))
		}
	}
	eliminate(n, divide, subtract)
	return append([]api.Frac{whole("0")}, mapped(rows, func(row []api.Frac) api.Frac { return row[n] })...)
}

// equations returns a row for each vertex but 0: its row of the reduced Laplacian at 0, and its number of d.
func (c *calculation) equations(g api.Graph, d []int) [][]api.Frac {
	m, err := laplacian.Reduced(g, 0)
	c.err = err
	var rows [][]api.Frac
	for v := range m.Rows {
		row := mapped(m.Cells[v*m.Cols:(v+1)*m.Cols], whole)
		rows = append(rows, append(row, whole(integer.Of(d[v+1]))))
	}
	return rows
}

// eliminate makes the first n columns of n rows those of the unit matrix. Each row is divided by its own entry, the one in the column with its number, and then subtracted from all others, so that they get 0 in this column. So it is only for matrices whose own entries do not become 0 on the way, such as reduced Laplacians of connected graphs.
func eliminate(n int, divide func(row int), subtract func(row, from int)) {
	for row := range n {
		divide(row)
		for from := range n {
			if from != row {
				subtract(row, from)
			}
		}
	}
}
