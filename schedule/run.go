package schedule

import (
	"iter"
	"slices"

	"sandpile/api"
	"sandpile/chips"
	"sandpile/firing"
	"sandpile/stabilize"
)

// run has chips on a graph with a sink, and how often each vertex has fired.
type run struct {
	sink    int
	changes []api.Divisor // what each vertex changes when it fires
	chips   api.Divisor
	script  api.Script
}

// newRun returns the run that begins with a configuration.
func newRun(g api.Graph, q int, d api.Divisor) (*run, api.Errno) {
	if e := stabilize.Check(g, q, d); e != api.OK {
		return nil, e
	}
	r := &run{sink: q, chips: slices.Clone(d), script: make(api.Script, g.N)}
	for v := range d {
		once := make(api.Script, g.N)
		once[v] = 1
		change, e := firing.Change(g, once)
		if e != api.OK {
			return nil, e
		}
		r.changes = append(r.changes, change)
	}
	return r, api.OK
}

// unstable yields the unstable vertices: those that fire without debts, in ascending order.
func (r *run) unstable() iter.Seq[int] {
	return func(yield func(int) bool) {
		for v, k := range r.chips {
			if v != r.sink && k+r.changes[v][v] >= 0 && !yield(v) {
				return
			}
		}
	}
}

// fire lets a vertex fire, the chips of which arrive at once.
func (r *run) fire(v int) {
	r.script[v]++
	for w, k := range r.changes[v] {
		r.chips[w] += k
	}
}

// result returns the chips, and how often each vertex has fired.
func (r *run) result() (api.Divisor, api.Script, api.Errno) {
	// There are as many ints as vertices, and debts do not grow, so only too many chips are an error.
	if chips.Check(r.chips, len(r.chips)) != api.OK {
		return nil, nil, api.ErrLarge
	}
	return r.chips, r.script, api.OK
}
