package contract

import "sandpile/api"

// Spread returns the divisor on the subdivided graph that has no chips at the new vertices.
func Spread(g api.Graph, k int, d api.Divisor) (api.Divisor, api.Errno) {
	divided, err := Subdivide(g, k)
	if err != api.OK {
		return nil, err
	}
	if err := checkDivisor(g, d); err != api.OK {
		return nil, err
	}
	spread := make(api.Divisor, divided.N)
	copy(spread, d)
	return spread, api.OK
}

// Collect returns the divisor on the graph in which a single edge is contracted.
func Collect(g api.Graph, e int, d api.Divisor) (api.Divisor, api.Errno) {
	ends, err := endsWith(g, e)
	if err != api.OK {
		return nil, err
	}
	if err := checkDivisor(g, d); err != api.OK {
		return nil, err
	}
	to := merging(ends[e])
	collected := make(api.Divisor, to(g.N))
	for v, chips := range d {
		collected[to(v)] += chips
	}
	for _, chips := range collected {
		if !inRange(chips) {
			return nil, api.ErrLarge
		}
	}
	return collected, api.OK
}

// checkDivisor returns OK for divisors on a graph.
func checkDivisor(g api.Graph, d api.Divisor) api.Errno {
	if len(d) != g.N {
		return api.ErrShape
	}
	for _, chips := range d {
		if !inRange(chips) {
			return api.ErrRange
		}
	}
	return api.OK
}

// inRange tells whether so many chips can be at a vertex.
func inRange(chips int) bool { return -api.MaxChips <= chips && chips <= api.MaxChips }
