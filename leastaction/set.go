package leastaction

import (
	"slices"

	"sandpile/api"
)

// set says of each vertex whether it is in a set.
type set [api.MaxVertices]bool

// isEmpty tells whether no vertex is in a set.
func (x set) isEmpty() bool { return x == set{} }

// list returns the vertices of a set, in order.
func (x set) list() []int {
	var l []int
	for v, in := range x {
		if in {
			l = append(l, v)
		}
	}
	return l
}

// occurring returns the vertices that a script fires.
func occurring(s api.Script) set {
	var x set
	for v, times := range s {
		x[v] = times > 0
	}
	return x
}

// without returns the script in which the vertices of a set fire once less.
func without(s api.Script, x set) api.Script {
	less := slices.Clone(s)
	for _, v := range x.list() {
		less[v]--
	}
	return less
}

// greatest returns the greatest set that can be taken away from a stabilizing script, which may be empty.
func (p pile) greatest(s api.Script) set {
	x := occurring(s)
	for {
		left := x
		// What is unstable here also is if fewer vertices are taken away, so it burns away; no vertex outside of the set is unstable.
		for _, v := range p.unstable(without(s, x)) {
			left[v] = false
		}
		if left == x {
			return x
		}
		x = left
	}
}
