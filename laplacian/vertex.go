package laplacian

import (
	"iter"

	"sandpile/api"
)

// vertices yields the vertices of a graph, each with the numbers of single edges that join it with every vertex. As loops do not matter, none joins it with itself.
func vertices(g api.Graph) iter.Seq2[int, []int] {
	return func(yield func(v int, joined []int) bool) {
		for v := range g.N {
			if !yield(v, joinedWith(g, v)) {
				return
			}
		}
	}
}

// joinedWith returns the numbers of single edges between a vertex and the other ones.
func joinedWith(g api.Graph, v int) []int {
	joined := make([]int, g.N)
	for _, x := range g.Edges {
		switch {
		case x.A == x.B:
		case x.A == v:
			joined[x.B] = x.Mult
		case x.B == v:
			joined[x.A] = x.Mult
		}
	}
	return joined
}

// sum returns the sum of numbers.
func sum(l []int) int {
	n := 0
	for _, x := range l {
		n += x
	}
	return n
}
