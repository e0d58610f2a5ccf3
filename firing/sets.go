package firing

import (
	"slices"

	"sandpile/api"
)

// Sets returns sets of vertices that change what a script changes, if they fire one after the other.
func Sets(g api.Graph, s api.Script) ([][]int, api.Errno) {
	if e := Check(g, s); e != api.OK {
		return nil, e
	}
	least, most := slices.Min(s), slices.Max(s)
	if most-least > api.MaxList {
		return nil, api.ErrLimit
	}
	var l [][]int
	for n := most - 1; n >= least; n-- {
		l = append(l, greater(s, n))
	}
	return l, api.OK
}

// greater returns the vertices that fire more than n times.
func greater(s api.Script, n int) []int {
	var set []int
	for v, times := range s {
		if times > n {
			set = append(set, v)
		}
	}
	return set
}
