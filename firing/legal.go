package firing

import (
	"slices"

	"sandpile/api"
)

// Legal reports whether a vertex may fire legally.
func Legal(g api.Graph, d api.Divisor, v int) (bool, api.Errno) { return LegalSet(g, d, []int{v}) }

// LegalSet reports whether a set of vertices may fire legally.
func LegalSet(g api.Graph, d api.Divisor, set []int) (bool, api.Errno) {
	if e := checkSet(g, d, set); e != api.OK {
		return false, e
	}
	return isLegal(g, d, set), api.OK
}

// isLegal tells whether single edges leave a set, along each of which a chip can be sent without debts in the set.
func isLegal(g api.Graph, d api.Divisor, set []int) bool {
	var in [api.MaxVertices]bool
	for _, v := range set {
		in[v] = true
	}
	left, leaves := slices.Clone(d), false
	along(g, func(v, w, mult int) {
		if in[v] && !in[w] {
			left[v] -= mult
			leaves = true
		}
	})
	return leaves && !slices.ContainsFunc(set, func(v int) bool { return left[v] < 0 })
}
