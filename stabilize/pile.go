package stabilize

import (
	"slices"

	"sandpile/api"
)

// pile has chips on a graph with a sink, of which unstable vertices wait to fire.
type pile struct {
	sink    int
	between [api.MaxVertices][api.MaxVertices]int // numbers of single edges, without loops
	valence [api.MaxVertices]int
	chips   api.Divisor
	script  api.Script // how often each vertex has fired
	waiting queue
}

// newPile returns the pile of a configuration, which may have too many chips at the sink.
func newPile(g api.Graph, q int, d api.Divisor) *pile {
	p := &pile{sink: q, chips: slices.Clone(d), script: make(api.Script, g.N)}
	for _, edge := range g.Edges {
		if edge.A != edge.B {
			p.join(edge.A, edge.B, edge.Mult)
			p.join(edge.B, edge.A, edge.Mult)
		}
	}
	for v := range p.chips {
		p.look(v)
	}
	return p
}

// join adds single edges that lead from a vertex to another one.
func (p *pile) join(v, w, mult int) {
	p.between[v][w] = mult
	p.valence[v] += mult
}

// look lets a vertex wait if it is unstable.
func (p *pile) look(v int) {
	if v != p.sink && p.chips[v] >= p.valence[v] {
		p.waiting[v] = true
	}
}

// fire lets a vertex fire that waits no more.
func (p *pile) fire(v int) {
	p.script[v]++
	p.chips[v] -= p.valence[v]
	for w := range p.chips {
		p.chips[w] += p.between[v][w]
		p.look(w)
	}
}
