package stabilize

import "sandpile/api"

// Stabilize returns the stable configuration that a configuration leads to, and how often each vertex fires.
func Stabilize(g api.Graph, q int, d api.Divisor) (api.Divisor, api.Script, api.Errno) {
	if e := Check(g, q, d); e != api.OK {
		return nil, nil, e
	}
	return stabilized(g, q, d)
}

// stabilized stabilizes a configuration, which may have too many chips at the sink.
func stabilized(g api.Graph, q int, d api.Divisor) (api.Divisor, api.Script, api.Errno) {
	p := newPile(g, q, d)
	if !p.waiting.drain(api.MaxFirings, p.fire) {
		return nil, nil, api.ErrLimit
	}
	if p.chips[q] > api.MaxChips {
		return nil, nil, api.ErrLarge
	}
	return p.chips, p.script, api.OK
}

// Topple returns the vertices that fire while a configuration is stabilized, in order.
func Topple(g api.Graph, q int, d api.Divisor) ([]int, api.Errno) {
	if e := Check(g, q, d); e != api.OK {
		return nil, e
	}
	p := newPile(g, q, d)
	var moves []int
	drained := p.waiting.drain(api.MaxEvents, func(v int) {
		moves = append(moves, v)
		p.fire(v)
	})
	if !drained {
		return nil, api.ErrLimit
	}
	return moves, api.OK
}
