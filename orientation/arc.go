package orientation

import (
	"slices"

	"sandpile/api"
	"sandpile/graph"
)

// arcsOf returns the vertices from which and to which each single edge leads.
func arcsOf(g api.Graph, o []bool) ([][2]int, api.Errno) {
	if err := Check(g, o); err != api.OK {
		return nil, err
	}
	ends, err := graph.Ends(g)
	if err != api.OK {
		return nil, err
	}
	return led(ends, o), api.OK
}

// led returns the ends of single edges in the order of an orientation.
func led(ends [][2]int, o []bool) [][2]int {
	l := make([][2]int, len(ends))
	for e, x := range ends {
		if o[e] {
			l[e] = x
		} else {
			l[e] = [2]int{x[1], x[0]}
		}
	}
	return l
}

// indegrees returns how many arcs lead to each of n vertices.
func indegrees(n int, arcs [][2]int) []int {
	l := make([]int, n)
	for _, x := range arcs {
		l[x[1]]++
	}
	return l
}

// sources returns those of n vertices to which no arc leads.
func sources(n int, arcs [][2]int) []int {
	var l []int
	for v, count := range indegrees(n, arcs) {
		if count == 0 {
			l = append(l, v)
		}
	}
	return l
}

// sorted takes, again and again, the least vertex to which no arc leads from vertices that are not yet taken; it returns no order if it cannot take all of the n vertices.
func sorted(n int, arcs [][2]int) ([]int, bool) {
	waiting := indegrees(n, arcs)
	var order []int
	for range n {
		v := slices.Index(waiting, 0)
		if v < 0 {
			return nil, false
		}
		order = append(order, v)
		waiting[v] = -1 // It is not taken again.
		for _, x := range arcs {
			if x[0] == v {
				waiting[x[1]]--
			}
		}
	}
	return order, true
}
