package graph

import "sandpile/api"

// components returns the number of components.
func components(g api.Graph) int {
	// Each vertex is in a component that has the number of one of its vertices.
	var of [api.MaxVertices]int
	for v := range of {
		of[v] = v
	}
	count := g.N
	for _, edge := range g.Edges {
		kept, joined := of[edge.A], of[edge.B]
		if kept == joined {
			continue
		}
		for v := range of {
			if of[v] == joined {
				of[v] = kept
			}
		}
		count--
	}
	return count
}
