package graph

import "sandpile/api"

// Subset returns OK for sets of vertices.
func Subset(g api.Graph, set []int) api.Errno {
	if e := Check(g); e != api.OK {
		return e
	}
	for i, v := range set {
		if !isVertex(g, v) {
			return api.ErrRange
		}
		if i > 0 && v <= set[i-1] {
			return api.ErrOrder
		}
	}
	return api.OK
}

// Cut returns the single edges with one end in a set.
func Cut(g api.Graph, set []int) ([]int, api.Errno) {
	if e := Subset(g, set); e != api.OK {
		return nil, e
	}
	var in [api.MaxVertices]bool
	for _, v := range set {
		in[v] = true
	}
	var cut []int
	for number, ends := range singles(g) {
		if in[ends[0]] != in[ends[1]] {
			cut = append(cut, number)
		}
	}
	return cut, api.OK
}

// Induced returns the graph on a set of vertices.
func Induced(g api.Graph, set []int) (api.Graph, api.Errno) {
	if e := Subset(g, set); e != api.OK {
		return api.Graph{}, e
	}
	if len(set) == 0 {
		return api.Graph{}, api.ErrEmpty
	}
	to := map[int]int{}
	for i, v := range set {
		to[v] = i
	}
	edges := collection{}
	for _, edge := range g.Edges {
		a, hasA := to[edge.A]
		b, hasB := to[edge.B]
		if hasA && hasB {
			edges.add(a, b, edge.Mult)
		}
	}
	return edges.graph(len(set)), api.OK
}
