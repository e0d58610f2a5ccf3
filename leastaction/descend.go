package leastaction

import (
	"iter"
	"slices"

	"sandpile/api"
)

// Descend takes greatest sets away from a stabilizing script until there is none, and returns the script that is left, and how many they are.
func Descend(g api.Graph, q int, d api.Divisor, s api.Script) (api.Script, int, api.Errno) {
	p, e := stabilized(g, q, d, s)
	if e != api.OK {
		return nil, 0, e
	}
	left, sets := slices.Clone(s), 0
	for less := range p.descent(s) {
		if sets == api.MaxEvents {
			return nil, 0, api.ErrLimit
		}
		left = less
		sets++
	}
	return left, sets, api.OK
}

// descent yields what is left of a stabilizing script each time the greatest set has been taken away.
func (p pile) descent(s api.Script) iter.Seq[api.Script] {
	return func(yield func(api.Script) bool) {
		left := s
		for x := p.greatest(left); !x.isEmpty(); x = p.greatest(left) {
			left = without(left, x)
			if !yield(left) {
				return
			}
		}
	}
}
