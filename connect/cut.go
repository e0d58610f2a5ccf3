package connect

import (
	"slices"

	"sandpile/api"
	"sandpile/graph"
)

// Bond reports whether the cut of a set is a bond.
func Bond(g api.Graph, set []int) (bool, api.Errno) {
	if e := graph.Subset(g, set); e != api.OK {
		return false, e
	}
	whole, e := Connected(g)
	if e != api.OK {
		return false, e
	}
	return whole && isConnected(g, set) && isConnected(g, complement(g, set)), api.OK
}

// isConnected tells whether a set is not empty, and induces a connected graph.
func isConnected(g api.Graph, set []int) bool {
	part, e := graph.Induced(g, set)
	if e != api.OK {
		return false
	}
	connected, e := Connected(part)
	return connected && e == api.OK
}

// complement returns the vertices that are not in a set.
func complement(g api.Graph, set []int) []int {
	var l []int
	for v := range g.N {
		if !slices.Contains(set, v) {
			l = append(l, v)
		}
	}
	return l
}

// Connectivity returns the least size of a cut, and the first set with the vertex 0 that has such a cut.
func Connectivity(g api.Graph) (int, []int, api.Errno) {
	if e := graph.Check(g); e != api.OK {
		return 0, nil, e
	}
	if g.N == 1 {
		return 0, nil, api.ErrEmpty
	}
	least := 0
	var found []int
	// A set comes ahead of those that continue it, so the sets come in lexicographic order.
	var look func(set []int)
	look = func(set []int) {
		if len(set) == g.N {
			return
		}
		if size := cutSize(g, set); len(found) == 0 || size < least {
			least, found = size, slices.Clone(set)
		}
		for v := set[len(set)-1] + 1; v < g.N; v++ {
			look(append(set, v))
		}
	}
	look([]int{0})
	return least, found, api.OK
}

// cutSize returns the number of single edges of which just one end is in a set.
func cutSize(g api.Graph, set []int) int {
	var in [api.MaxVertices]bool
	for _, v := range set {
		in[v] = true
	}
	size := 0
	for _, edge := range g.Edges {
		if in[edge.A] != in[edge.B] {
			size += edge.Mult
		}
	}
	return size
}
