package tree

import (
	"slices"

	"sandpile/api"
	"sandpile/connect"
	"sandpile/graph"
)

// Cycle returns the cycle that a further single edge closes.
func Cycle(g api.Graph, t []int, e int) ([]int, api.Errno) {
	ends, err := treeEnds(g, t)
	if err != api.OK {
		return nil, err
	}
	if !isSingle(ends, e) {
		return nil, api.ErrRange
	}
	if slices.Contains(t, e) {
		return nil, api.ErrState
	}
	cycle := append(path(g.N, ends, t, ends[e]), e)
	slices.Sort(cycle)
	return cycle, api.OK
}

// Cutset returns the cut between the two parts of a tree without one of its edges.
func Cutset(g api.Graph, t []int, e int) ([]int, api.Errno) {
	ends, err := treeEnds(g, t)
	if err != api.OK {
		return nil, err
	}
	if !isSingle(ends, e) {
		return nil, api.ErrRange
	}
	if !slices.Contains(t, e) {
		return nil, api.ErrState
	}
	parts, err := connect.Parts(g, without(t, e))
	if err != api.OK {
		return nil, err
	}
	return graph.Cut(g, parts[0])
}

// Path returns the single edges from a vertex to another one, in order.
func Path(g api.Graph, t []int, a, b int) ([]int, api.Errno) {
	ends, err := treeEnds(g, t)
	if err != api.OK {
		return nil, err
	}
	if !isVertex(g, a) || !isVertex(g, b) {
		return nil, api.ErrRange
	}
	return path(g.N, ends, t, [2]int{a, b}), api.OK
}

// path returns the single edges of a tree on the way from one vertex to another one.
func path(n int, ends [][2]int, t []int, between [2]int) []int {
	towards := parents(n, ends, t, between[1])
	var l []int
	for v := between[0]; v != between[1]; {
		e := towards[v]
		l = append(l, e)
		v = ends[e][0] + ends[e][1] - v
	}
	return l
}

// Parents returns for each vertex the single edge towards a root.
func Parents(g api.Graph, t []int, root int) ([]int, api.Errno) {
	ends, err := treeEnds(g, t)
	if err != api.OK {
		return nil, err
	}
	if !isVertex(g, root) {
		return nil, api.ErrRange
	}
	return parents(g.N, ends, t, root), api.OK
}

// parents returns the first single edge of a tree on the way from each vertex to the root, and -1 for the root.
func parents(n int, ends [][2]int, t []int, root int) []int {
	l := slices.Repeat([]int{-1}, n)
	var visit func(v int)
	visit = func(v int) {
		for _, e := range t {
			// In a tree, each single edge but the one towards the root leads to a vertex that is new.
			if e == l[v] || ends[e][0] != v && ends[e][1] != v {
				continue
			}
			w := ends[e][0] + ends[e][1] - v
			l[w] = e
			visit(w)
		}
	}
	visit(root)
	return l
}

// isVertex tells whether a number is a vertex.
func isVertex(g api.Graph, v int) bool { return 0 <= v && v < g.N }
