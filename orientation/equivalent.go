package orientation

import (
	"sandpile/api"
	"sandpile/graph"
)

// maxCompared is the number of single edges up to which orientations are compared.
const maxCompared = 12

// Equivalent reports whether two orientations become equal by reversing directed cuts and cycles.
func Equivalent(g api.Graph, a, b []bool) (bool, api.Errno) {
	for _, o := range [][]bool{a, b} {
		if err := Check(g, o); err != api.OK {
			return false, err
		}
	}
	if len(a) > maxCompared {
		return false, api.ErrLimit
	}
	ends, err := graph.Ends(g)
	if err != api.OK {
		return false, err
	}
	return leads(packed(a), packed(b), append(cuts(g.N, ends), cycles(g.N, ends)...)), api.OK
}

// packed returns an orientation with a bit for each single edge.
func packed(o []bool) uint {
	var all uint
	for e, x := range o {
		if x {
			all |= 1 << e
		}
	}
	return all
}

// A turn has the single edges of a cut, or of a cycle, and the directions in which it is directed: these, or all the other ones.
type turn struct{ edges, way uint }

// isDirected tells whether the cut or the cycle is directed in an orientation.
func (x turn) isDirected(o uint) bool {
	return o&x.edges == x.way || o&x.edges == x.edges^x.way
}

// leads tells whether one orientation becomes another one by turns of what is directed.
func leads(from, to uint, turns []turn) bool {
	found := map[uint]bool{from: true}
	work := []uint{from}
search:
	for len(work) > 0 {
		o := work[0]
		work = work[1:]
		for _, x := range turns {
			next := o ^ x.edges
			if !x.isDirected(o) || found[next] {
				continue
			}
			found[next] = true
			if next == to {
				break search
			}
			work = append(work, next)
		}
	}
	return found[to]
}

// cuts returns the turns at all sets of vertices with the vertex 0, as their complements have the same cuts.
func cuts(n int, ends [][2]int) []turn {
	var l []turn
	for set := 1; set < 1<<n; set += 2 {
		var x turn
		for e, pair := range ends {
			from, to := set>>pair[0]&1, set>>pair[1]&1
			if from != to {
				x.edges |= 1 << e
				x.way |= uint(from) << e
			}
		}
		if x.edges != 0 {
			l = append(l, x)
		}
	}
	return l
}

// cycles returns the turns of all cycles.
func cycles(n int, ends [][2]int) []turn {
	var l []turn
	// Each cycle is walked through from its least vertex, in both directions.
	var walk func(start, v int, visited uint, x turn)
	walk = func(start, v int, visited uint, x turn) {
		for e, pair := range ends {
			for side, from := range pair {
				to := pair[1-side]
				if from != v || to < start || x.edges>>e&1 == 1 {
					continue
				}
				longer := turn{x.edges | 1<<e, x.way | uint(1-side)<<e}
				if to == start {
					l = append(l, longer)
				} else if visited>>to&1 == 0 {
					walk(start, to, visited|1<<to, longer)
				}
			}
		}
	}
	for v := range n {
		walk(v, v, 0, turn{})
	}
	return l
}
