package lattice

import (
	"slices"

	"sandpile/api"
	"sandpile/connect"
	"sandpile/tree"
)

// Cycles returns the basis of the cycle lattice.
func Cycles(g api.Graph) ([][]int, api.Errno) {
	b, err := basisOf(g)
	if err != api.OK {
		return nil, err
	}
	return mapped(b.outside(), b.cycle), api.OK
}

// Cuts returns the basis of the cut lattice.
func Cuts(g api.Graph) ([][]int, api.Errno) {
	b, err := basisOf(g)
	return b.cuts, err
}

// basis has the basis of the cut lattice of a graph: each single edge of its first spanning tree has a cut.
type basis struct {
	ends [][2]int
	tree []int
	cuts [][]int
}

// basisOf returns the basis of a connected graph.
func basisOf(g api.Graph) (basis, api.Errno) {
	ends, err := connectedEnds(g)
	if err != api.OK {
		return basis{}, err
	}
	first, err := tree.First(g)
	if err != api.OK {
		return basis{}, err
	}
	cuts := mapped(first, func(e int) []int { return coboundary(ends, behind(g, first, e, ends[e][1])) })
	return basis{ends, first, cuts}, api.OK
}

// behind returns the potential that is 1 at the vertices that a tree without a single edge connects with a vertex, and 0 elsewhere.
func behind(g api.Graph, t []int, e, v int) []int {
	others := slices.DeleteFunc(slices.Clone(t), func(f int) bool { return f == e })
	parts, _ := connect.Parts(g, others) // a part of a tree is a set of single edges, so this is no error
	f := make([]int, g.N)
	for _, part := range parts {
		if slices.Contains(part, v) {
			for _, w := range part {
				f[w] = 1
			}
		}
	}
	return f
}

// outside returns the single edges that are not in the tree.
func (b basis) outside() []int {
	var l []int
	for e := range b.ends {
		if !slices.Contains(b.tree, e) {
			l = append(l, e)
		}
	}
	return l
}

// cycle returns the vector of the cycle lattice that belongs to a single edge outside of the tree.
func (b basis) cycle(e int) []int {
	x := make([]int, len(b.ends))
	x[e] = 1
	for i, f := range b.tree {
		// A cycle is orthogonal to the cut of f, and both have just e and f in common.
		x[f] = -b.cuts[i][e]
	}
	return x
}

// combined returns the vector of the cut lattice that is the same as x in the tree.
func (b basis) combined(x []int) []int {
	sum := make([]int, len(b.ends))
	for i, f := range b.tree {
		for e, n := range b.cuts[i] {
			sum[e] += x[f] * n
		}
	}
	return sum
}
