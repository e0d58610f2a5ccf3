package graph

import "sandpile/api"

// Degree returns the number of half-edges at a vertex.
func Degree(g api.Graph, v int) (int, api.Errno) {
	if e := checkVertices(g, v); e != api.OK {
		return 0, e
	}
	others, loops := around(g, v)
	return others + 2*loops, api.OK
}

// Valence returns the number of single edges that lead from a vertex to others.
func Valence(g api.Graph, v int) (int, api.Errno) {
	if e := checkVertices(g, v); e != api.OK {
		return 0, e
	}
	others, _ := around(g, v)
	return others, api.OK
}

// around returns the numbers of single edges that lead from a vertex to others, and of its loops.
func around(g api.Graph, v int) (int, int) {
	others, loops := 0, 0
	for _, edge := range g.Edges {
		switch {
		case edge.A == v && edge.B == v:
			loops += edge.Mult
		case edge.A == v || edge.B == v:
			others += edge.Mult
		}
	}
	return others, loops
}

// Between returns the number of single edges between two vertices.
func Between(g api.Graph, a, b int) (int, api.Errno) {
	if e := checkVertices(g, a, b); e != api.OK {
		return 0, e
	}
	for _, edge := range g.Edges {
		if edge.A == min(a, b) && edge.B == max(a, b) {
			return edge.Mult, api.OK
		}
	}
	return 0, api.OK
}

// Neighbours returns the other vertices that are joined to a vertex.
func Neighbours(g api.Graph, v int) ([]int, api.Errno) {
	if e := checkVertices(g, v); e != api.OK {
		return nil, e
	}
	// The edges to lesser vertices come first, by A, and then those to greater ones, by B: so the neighbours are in order.
	var l []int
	for _, edge := range g.Edges {
		switch {
		case edge.A == edge.B:
		case edge.A == v:
			l = append(l, edge.B)
		case edge.B == v:
			l = append(l, edge.A)
		}
	}
	return l, api.OK
}
