package connect

import "sandpile/api"

// partition has n vertices, of which some are joined.
type partition struct {
	n  int
	of [api.MaxVertices]int // the least vertex that a vertex is joined with
}

// apart returns n vertices of which none are joined.
func apart(n int) partition {
	p := partition{n: n}
	for v := range n {
		p.of[v] = v
	}
	return p
}

// join joins two vertices, and all that are joined with them.
func (p *partition) join(ends [2]int) {
	a, b := p.of[ends[0]], p.of[ends[1]]
	for v := range p.n {
		if p.of[v] == a || p.of[v] == b {
			p.of[v] = min(a, b)
		}
	}
}

// lists returns the vertices that are joined with each other, ordered by the least ones.
func (p *partition) lists() [][]int {
	var l [][]int
	var place [api.MaxVertices]int
	for v := range p.n {
		least := p.of[v]
		if least == v {
			place[v] = len(l)
			l = append(l, nil)
		}
		l[place[least]] = append(l[place[least]], v)
	}
	return l
}
