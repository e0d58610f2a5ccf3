package graph

import (
	"cmp"
	"slices"

	"sandpile/api"
)

// collection has the number of single edges between two vertices, the lesser of which comes first.
type collection map[[2]int]int

// add adds single edges between two vertices, in either order.
func (c collection) add(a, b, mult int) { c[[2]int{min(a, b), max(a, b)}] += mult }

// graph returns the graph with n vertices and the edges of the collection.
func (c collection) graph(n int) api.Graph {
	g := api.Graph{N: n}
	for ends, mult := range c {
		g.Edges = append(g.Edges, api.Edge{A: ends[0], B: ends[1], Mult: mult})
	}
	slices.SortFunc(g.Edges, compare)
	return g
}

// compare compares edges by A and then B.
func compare(x, y api.Edge) int { return cmp.Or(cmp.Compare(x.A, y.A), cmp.Compare(x.B, y.B)) }

// Make returns the graph with some single edges, given by their ends.
func Make(n int, ends [][2]int) (api.Graph, api.Errno) {
	empty := api.Graph{N: n}
	if e := Check(empty); e != api.OK {
		return api.Graph{}, e
	}
	if len(ends) > api.MaxEvents {
		return api.Graph{}, api.ErrMany
	}
	edges := collection{}
	for _, x := range ends {
		if !isVertex(empty, x[0]) || !isVertex(empty, x[1]) {
			return api.Graph{}, api.ErrRange
		}
		edges.add(x[0], x[1], 1)
	}
	for _, mult := range edges {
		if mult > api.MaxMult {
			return api.Graph{}, api.ErrMany
		}
	}
	return edges.graph(n), api.OK
}
