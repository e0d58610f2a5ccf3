package tree

import (
	"iter"
	"slices"

	"sandpile/api"
)

// sets has the vertices, of which some are joined: each one has the number of a vertex that all those joined with it have, too.
type sets [api.MaxVertices]int

// apart returns vertices of which none are joined.
func apart() sets {
	var s sets
	for v := range s {
		s[v] = v
	}
	return s
}

// joined tells whether the ends of a single edge are joined.
func (s sets) joined(ends [2]int) bool { return s[ends[0]] == s[ends[1]] }

// join returns the sets in which the ends of a single edge are joined, too.
func (s sets) join(ends [2]int) sets {
	kept, other := s[ends[0]], s[ends[1]]
	for v := range s {
		if s[v] == other {
			s[v] = kept
		}
	}
	return s
}

// isWhole tells whether the first n vertices become one set when those that are joined in more are joined, too.
func (s sets) isWhole(n int, more sets) bool {
	for v := range n {
		s = s.join([2]int{v, more[v]})
	}
	for v := range n {
		if s[v] != s[0] {
			return false
		}
	}
	return true
}

// joinedFrom returns for each single edge which vertices are joined by it and the later ones.
func joinedFrom(ends [][2]int) []sets {
	l := make([]sets, len(ends))
	last := apart()
	for e := len(ends) - 1; e >= 0; e-- {
		last = last.join(ends[e])
		l[e] = last
	}
	return l
}

// trees yields the spanning trees of a connected graph with n vertices, in lexicographic order.
func trees(n int, ends [][2]int) iter.Seq[[]int] {
	later := joinedFrom(ends)
	return func(yield func(t []int) bool) {
		var grow func(t []int, s sets, from int) bool
		grow = func(t []int, s sets, from int) bool {
			if len(t) == n-1 {
				return yield(slices.Clone(t))
			}
			for e := from; e < len(ends); e++ {
				if s.joined(ends[e]) {
					continue
				}
				// Every step must lead to a tree: otherwise, large graphs would have too many steps that lead to none.
				if !s.isWhole(n, later[e]) {
					break
				}
				if !grow(append(t, e), s.join(ends[e]), e+1) {
					return false
				}
			}
			return true
		}
		grow(nil, apart(), 0)
	}
}
