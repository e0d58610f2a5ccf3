package graph

import (
	"iter"

	"sandpile/api"
)

// singles yields the single edges by their numbers, with their ends.
func singles(g api.Graph) iter.Seq2[int, [2]int] {
	return func(yield func(int, [2]int) bool) {
		number := 0
		for _, edge := range g.Edges {
			for range edge.Mult {
				if !yield(number, [2]int{edge.A, edge.B}) {
					return
				}
				number++
			}
		}
	}
}
