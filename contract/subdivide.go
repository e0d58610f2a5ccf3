package contract

import (
	"sandpile/api"
	"sandpile/graph"
)

// Subdivide returns the graph in which each single edge is a way of k single edges.
func Subdivide(g api.Graph, k int) (api.Graph, api.Errno) {
	ends, err := graph.Ends(g)
	if err != api.OK {
		return api.Graph{}, err
	}
	if k < 1 || k > api.MaxVertices {
		return api.Graph{}, api.ErrRange
	}
	n := g.N + (k-1)*len(ends)
	if n > api.MaxVertices {
		return api.Graph{}, api.ErrMany
	}
	var divided [][2]int
	next := g.N
	for _, x := range ends {
		last := x[0]
		for range k - 1 {
			divided = append(divided, [2]int{last, next})
			last = next
			next++
		}
		divided = append(divided, [2]int{last, x[1]})
	}
	return graph.Make(n, divided)
}
