package leastaction

import (
	"slices"

	"sandpile/api"
	"sandpile/firing"
	"sandpile/stabilize"
)

// pile is a configuration with a sink.
type pile struct {
	g       api.Graph
	sink    int
	chips   api.Divisor
	maximal api.Divisor // the most chips with which each vertex but the sink is stable
}

// newPile returns the pile of a configuration, for which there is a script.
func newPile(g api.Graph, q int, d api.Divisor, s api.Script) (pile, api.Errno) {
	if e := stabilize.Check(g, q, d); e != api.OK {
		return pile{}, e
	}
	if e := firing.Check(g, s); e != api.OK {
		return pile{}, e
	}
	maximal, e := stabilize.Maximal(g, q)
	return pile{g, q, d, maximal}, e
}

// stabilized returns the pile of a configuration, for which there is a stabilizing script.
func stabilized(g api.Graph, q int, d api.Divisor, s api.Script) (pile, api.Errno) {
	p, e := newPile(g, q, d, s)
	if e == api.OK && !p.stabilizes(s) {
		e = api.ErrState
	}
	return p, e
}

// behind returns the chips to which a script leads, whatever its numbers are.
func (p pile) behind(s api.Script) api.Divisor {
	d := slices.Clone(p.chips)
	for _, edge := range p.g.Edges {
		sent := edge.Mult * (s[edge.A] - s[edge.B])
		d[edge.A] -= sent
		d[edge.B] += sent
	}
	return d
}

// unstable returns the vertices that are unstable behind a script.
func (p pile) unstable(s api.Script) []int {
	var l []int
	for v, k := range p.behind(s) {
		if v != p.sink && k > p.maximal[v] {
			l = append(l, v)
		}
	}
	return l
}

// stabilizes tells whether a script is stabilizing.
func (p pile) stabilizes(s api.Script) bool {
	return p.isPlayable(s) && len(p.unstable(s)) == 0
}

// isPlayable tells whether a script is not negative, and 0 at the sink.
func (p pile) isPlayable(s api.Script) bool { return slices.Min(s) >= 0 && s[p.sink] == 0 }
