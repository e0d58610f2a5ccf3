package orientation

import (
	"iter"
	"math/bits"
	"slices"

	"sandpile/api"
	"sandpile/graph"
)

// All returns all orientations.
func All(g api.Graph) ([][]bool, api.Errno) {
	size, err := graph.Size(g)
	if err != api.OK {
		return nil, err
	}
	if err := checkFew(size); err != api.OK {
		return nil, err
	}
	return slices.Collect(orientations(size)), api.OK
}

// Unique returns the acyclic orientations with only one source, which is given.
func Unique(g api.Graph, q int) ([][]bool, api.Errno) {
	ends, err := graph.Ends(g)
	if err != api.OK {
		return nil, err
	}
	if q < 0 || q >= g.N {
		return nil, api.ErrRange
	}
	if err := checkFew(len(ends)); err != api.OK {
		return nil, err
	}
	var l [][]bool
	for o := range orientations(len(ends)) {
		arcs := led(ends, o)
		_, acyclic := sorted(g.N, arcs)
		if acyclic && slices.Equal(sources(g.N, arcs), []int{q}) {
			l = append(l, o)
		}
	}
	return l, api.OK
}

// checkFew returns OK if so many single edges have at most MaxFound orientations.
func checkFew(size int) api.Errno {
	// 2^size itself may be too large for an int.
	if size >= bits.Len(api.MaxFound) {
		return api.ErrLimit
	}
	return api.OK
}

// orientations yields all orientations of some single edges, in lexicographic order.
func orientations(size int) iter.Seq[[]bool] {
	return func(yield func(o []bool) bool) {
		o := make([]bool, size)
		var choose func(e int) bool
		choose = func(e int) bool {
			if e == size {
				return yield(slices.Clone(o))
			}
			for _, forward := range []bool{false, true} {
				o[e] = forward
				if !choose(e + 1) {
					return false
				}
			}
			return true
		}
		choose(0)
	}
}
