package family

import (
	"sandpile/api"
	"sandpile/graph"
)

// family is what is known of the graphs of a kind.
type family struct {
	sizes  int
	draw   func(d *drawing, s []int)
	orders func(s []int) []int // nil if they are not known
}

// families returns the families of all kinds.
func families() [Theta + 1]family {
	return [...]family{
		Path:      {1, path, noOrders},
		Cycle:     {1, cycle, oneOrder},
		Star:      {1, star, noOrders},
		Complete:  {1, complete, completeOrders},
		Banana:    {1, banana, oneOrder},
		Wheel:     {1, wheel, wheelOrders},
		Bipartite: {2, bipartite, bipartiteOrders},
		Grid:      {2, grid, nil},
		Theta:     {3, theta, thetaOrders},
	}
}

// of returns the family of a kind.
func of(kind int) (family, api.Errno) {
	table := families()
	if kind < 0 || kind >= len(table) {
		return family{}, api.ErrArg
	}
	return table[kind], api.OK
}

// check returns OK for sizes with which a graph can be drawn; it may still have too many vertices.
func (f family) check(sizes []int) api.Errno {
	if len(sizes) != f.sizes {
		return api.ErrShape
	}
	for _, n := range sizes {
		if n < 1 {
			return api.ErrRange
		}
	}
	for _, n := range sizes {
		// This is too much for every kind; no drawing becomes large, and no sum or product of sizes is wrong.
		if n > api.MaxMult {
			return api.ErrMany
		}
	}
	return api.OK
}

// graph returns the graph with some sizes.
func (f family) graph(sizes []int) (api.Graph, api.Errno) {
	if e := f.check(sizes); e != api.OK {
		return api.Graph{}, e
	}
	var d drawing
	f.draw(&d, sizes)
	if d.vertices > api.MaxVertices {
		return api.Graph{}, api.ErrMany
	}
	return graph.Make(d.vertices, d.ends)
}
