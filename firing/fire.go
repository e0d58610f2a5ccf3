package firing

import (
	"sandpile/api"
	"sandpile/graph"
)

// Fire returns the divisor behind the firing of a vertex.
func Fire(g api.Graph, d api.Divisor, v int) (api.Divisor, api.Errno) {
	return fired(g, d, []int{v}, 1)
}

// Borrow returns the divisor behind the borrowing of a vertex.
func Borrow(g api.Graph, d api.Divisor, v int) (api.Divisor, api.Errno) {
	return fired(g, d, []int{v}, -1)
}

// FireSet returns the divisor behind the firing of a set of vertices.
func FireSet(g api.Graph, d api.Divisor, set []int) (api.Divisor, api.Errno) {
	return fired(g, d, set, 1)
}

// fired returns the divisor behind the firing of a set of vertices some times.
func fired(g api.Graph, d api.Divisor, set []int, times int) (api.Divisor, api.Errno) {
	if e := checkSet(g, d, set); e != api.OK {
		return nil, e
	}
	s := make(api.Script, g.N)
	for _, v := range set {
		s[v] = times
	}
	return changed(g, d, s)
}

// checkSet returns the first error of a graph, a divisor and a set of vertices.
func checkSet(g api.Graph, d api.Divisor, set []int) api.Errno {
	if e := checkDivisor(g, d); e != api.OK {
		return e
	}
	return graph.Subset(g, set)
}
