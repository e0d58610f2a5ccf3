package stabilize

import (
	"slices"

	"sandpile/api"
)

// Avalanche returns the configuration behind the avalanche of a vertex, how often each vertex fires in it, and its size.
func Avalanche(g api.Graph, q int, d api.Divisor, v int) (api.Divisor, api.Script, int, api.Errno) {
	if e := Check(g, q, d); e != api.OK {
		return nil, nil, 0, e
	}
	if !isVertex(g, v) {
		return nil, nil, 0, api.ErrRange
	}
	if !newPile(g, q, d).waiting.isEmpty() {
		return nil, nil, 0, api.ErrState
	}
	behind, script, e := stabilized(g, q, withChip(d, v))
	return behind, script, size(script), e
}

// Largest returns the vertex with the largest avalanche, and its size.
func Largest(g api.Graph, q int, d api.Divisor) (int, int, api.Errno) {
	stable, e := Stable(g, q, d)
	if e != api.OK {
		return 0, 0, e
	}
	if !stable {
		return 0, 0, api.ErrState
	}
	vertex, largest := 0, 0
	for v := range d {
		// An avalanche has its size even if the sink gets too many chips.
		p := newPile(g, q, withChip(d, v))
		if !p.waiting.drain(api.MaxFirings, p.fire) {
			return 0, 0, api.ErrLimit
		}
		if n := size(p.script); n > largest {
			vertex, largest = v, n
		}
	}
	return vertex, largest, api.OK
}

// withChip returns the divisor with one more chip at a vertex.
func withChip(d api.Divisor, v int) api.Divisor {
	more := slices.Clone(d)
	more[v]++
	return more
}

// size returns the number of firings of a script.
func size(s api.Script) int {
	n := 0
	for _, times := range s {
		n += times
	}
	return n
}
