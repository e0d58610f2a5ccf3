package connect

import (
	"cmp"
	"slices"

	"sandpile/api"
	"sandpile/graph"
)

// Blocks returns the blocks of a graph.
func Blocks(g api.Graph) ([][]int, api.Errno) {
	ends, e := graph.Ends(g)
	if e != api.OK {
		return nil, e
	}
	return blocks(g.N, ends), api.OK
}

// blocks returns the blocks of the graph with n vertices and these single edges.
func blocks(n int, ends [][2]int) [][]int {
	var found [][]int
	keep := func(block []int) {
		block = slices.Clone(block)
		slices.Sort(block)
		found = append(found, block)
	}
	for number := range len(ends) {
		if isLoop(ends[number]) {
			keep([]int{number})
		}
	}
	search(n, ends, keep)
	slices.SortFunc(found, func(a, b []int) int { return cmp.Compare(a[0], b[0]) })
	return found
}

// search finds the blocks without loops, in depth-first order.
func search(n int, ends [][2]int, keep func(block []int)) {
	near := around(n, ends)
	// The place in the order in which each vertex is entered, from 1 on, and the least place to which single edges lead back from it or from behind it.
	var entered, back [api.MaxVertices]int
	count := 0
	var path []int // the single edges whose blocks are not found yet
	var visit func(v, from int)
	visit = func(v, from int) {
		count++
		entered[v], back[v] = count, count
		for _, number := range near[v] {
			w := ends[number][0] + ends[number][1] - v
			// Each single edge is taken once, from the side that comes first to it.
			if number == from || entered[w] > entered[v] {
				continue
			}
			start := len(path)
			path = append(path, number)
			if entered[w] > 0 {
				back[v] = min(back[v], entered[w])
				continue
			}
			visit(w, number)
			back[v] = min(back[v], back[w])
			if back[w] >= entered[v] { // Nothing behind leads back beyond v.
				keep(path[start:])
				path = path[:start]
			}
		}
	}
	for v := range n {
		if entered[v] == 0 {
			visit(v, -1)
		}
	}
}

// around returns the single edges at each vertex, without loops.
func around(n int, ends [][2]int) [][]int {
	near := make([][]int, n)
	for number := range len(ends) {
		if isLoop(ends[number]) {
			continue
		}
		for _, v := range ends[number] {
			near[v] = append(near[v], number)
		}
	}
	return near
}

// isLoop tells whether a single edge is a loop.
func isLoop(ends [2]int) bool { return ends[0] == ends[1] }

// Bridges returns the single edges that lie on no cycle.
func Bridges(g api.Graph) ([]int, api.Errno) {
	ends, e := graph.Ends(g)
	if e != api.OK {
		return nil, e
	}
	var l []int
	for _, block := range blocks(g.N, ends) {
		if len(block) == 1 && !isLoop(ends[block[0]]) {
			l = append(l, block[0])
		}
	}
	return l, api.OK
}

// Articulations returns the vertices without which the graph has more components.
func Articulations(g api.Graph) ([]int, api.Errno) {
	ends, e := graph.Ends(g)
	if e != api.OK {
		return nil, e
	}
	// These are the vertices at several blocks that are no loops.
	var count [api.MaxVertices]int
	for _, block := range blocks(g.N, ends) {
		if isLoop(ends[block[0]]) {
			continue
		}
		for v, at := range touched(ends, block) {
			if at {
				count[v]++
			}
		}
	}
	var l []int
	for v := range count {
		if count[v] > 1 {
			l = append(l, v)
		}
	}
	return l, api.OK
}

// touched tells of each vertex whether it is an end of some single edges.
func touched(ends [][2]int, block []int) [api.MaxVertices]bool {
	var at [api.MaxVertices]bool
	for _, number := range block {
		at[ends[number][0]], at[ends[number][1]] = true, true
	}
	return at
}
