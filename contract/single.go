package contract

import (
	"cmp"
	"slices"

	"sandpile/api"
	"sandpile/graph"
)

// endsWith returns the ends of all single edges of a graph that has the single edge e.
func endsWith(g api.Graph, e int) ([][2]int, api.Errno) {
	ends, err := graph.Ends(g)
	if err != api.OK {
		return nil, err
	}
	if e < 0 || e >= len(ends) {
		return nil, api.ErrRange
	}
	return ends, api.OK
}

// merging returns the new numbers of the vertices when two of them are merged, or the old ones if they are the same; it takes the number of vertices to their new number, too.
func merging(pair [2]int) func(v int) int {
	a, b := min(pair[0], pair[1]), max(pair[0], pair[1])
	return func(v int) int {
		switch {
		case v < b || a == b:
			return v
		case v == b:
			return a
		}
		return v - 1
	}
}

// moved returns the new ends of single edges, the lesser one first.
func moved(ends [][2]int, to func(v int) int) [][2]int {
	l := make([][2]int, len(ends))
	for i, x := range ends {
		v, w := to(x[0]), to(x[1])
		l[i] = [2]int{min(v, w), max(v, w)}
	}
	return l
}

// compare compares ends by the lesser one and then the greater one.
func compare(x, y [2]int) int { return cmp.Or(cmp.Compare(x[0], y[0]), cmp.Compare(x[1], y[1])) }

// numbers returns the places of the elements of a list in their order without one of them, which has the place -1; equal elements keep their order.
func numbers[T any](l []T, without int, compare func(x, y T) int) []int {
	var order []int
	for i := range l {
		if i != without {
			order = append(order, i)
		}
	}
	slices.SortStableFunc(order, func(i, j int) int { return compare(l[i], l[j]) })
	places := make([]int, len(l))
	places[without] = -1
	for place, i := range order {
		places[i] = place
	}
	return places
}
