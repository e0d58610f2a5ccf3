package parallel

import (
	"iter"
	"math"

	"sandpile/api"
)

// row has the chips of each vertex.
type row [api.MaxVertices]int

// rowOf returns the row of a divisor.
func rowOf(d api.Divisor) row {
	var r row
	copy(r[:], d)
	return r
}

// divisor returns the divisor on the first n vertices of a row.
func (r row) divisor(n int) api.Divisor { return append(api.Divisor{}, r[:n]...) }

// board is a graph on which vertices fire at once.
type board struct {
	g     api.Graph
	needs row // how many chips a vertex needs to fire
}

// never is what a vertex needs that does not fire, however many chips it has.
const never = math.MaxInt

// withoutSink returns the board on which all vertices fire that are joined to others.
func withoutSink(g api.Graph) board {
	b := board{g: g}
	for _, edge := range g.Edges {
		if edge.A != edge.B {
			b.needs[edge.A] += edge.Mult
			b.needs[edge.B] += edge.Mult
		}
	}
	for v, valence := range b.needs {
		if valence == 0 {
			b.needs[v] = never
		}
	}
	return b
}

// withSink returns the board on which one of these vertices does not fire.
func withSink(g api.Graph, q int) board {
	b := withoutSink(g)
	b.needs[q] = never
	return b
}

// rounds yields the vertices that fire in each round, and the chips behind it, without end.
func (b board) rounds(d api.Divisor) iter.Seq2[[]int, row] {
	return func(yield func([]int, row) bool) {
		for r := rowOf(d); ; {
			fires := b.ready(r)
			r = b.behind(r, fires)
			if !yield(fires.list(), r) {
				return
			}
		}
	}
}

// set says of each vertex whether it is in a set.
type set [api.MaxVertices]bool

// list returns the vertices of a set, in order.
func (s set) list() []int {
	var l []int
	for v, in := range s {
		if in {
			l = append(l, v)
		}
	}
	return l
}

// ready returns the vertices that have as many chips as they need.
func (b board) ready(r row) set {
	var s set
	for v, k := range r {
		s[v] = k >= b.needs[v]
	}
	return s
}

// behind returns the chips behind the firing of a set.
func (b board) behind(r row, fires set) row {
	for _, edge := range b.g.Edges {
		// What both ends send to each other, and a loop to its own end, makes no difference.
		switch {
		case fires[edge.A] && !fires[edge.B]:
			r[edge.A] -= edge.Mult
			r[edge.B] += edge.Mult
		case fires[edge.B] && !fires[edge.A]:
			r[edge.B] -= edge.Mult
			r[edge.A] += edge.Mult
		}
	}
	return r
}
