package graph

import (
	"slices"

	"sandpile/api"
)

// Relabel returns the graph with other numbers of the vertices.
func Relabel(g api.Graph, to []int) (api.Graph, api.Errno) {
	if e := Check(g); e != api.OK {
		return api.Graph{}, e
	}
	if len(to) != g.N {
		return api.Graph{}, api.ErrShape
	}
	for i, v := range to {
		if !isVertex(g, v) {
			return api.Graph{}, api.ErrRange
		}
		if slices.Contains(to[:i], v) {
			return api.Graph{}, api.ErrTwice
		}
	}
	edges := collection{}
	for _, edge := range g.Edges {
		edges.add(to[edge.A], to[edge.B], edge.Mult)
	}
	return edges.graph(g.N), api.OK
}

// Loopless returns the graph without loops.
func Loopless(g api.Graph) (api.Graph, api.Errno) {
	if e := Check(g); e != api.OK {
		return api.Graph{}, e
	}
	kept := api.Graph{N: g.N}
	for _, edge := range g.Edges {
		if edge.A != edge.B {
			kept.Edges = append(kept.Edges, edge)
		}
	}
	return kept, api.OK
}

// Simple returns the graph without loops, in which two vertices are joined at most once.
func Simple(g api.Graph) (api.Graph, api.Errno) {
	simple, e := Loopless(g)
	for i := range simple.Edges {
		simple.Edges[i].Mult = 1
	}
	return simple, e
}
