package schedule

import "sandpile/api"

// trace is a run in which it is noted who fires at each event.
type trace struct {
	*run
	fired []int
}

// traced returns the trace of the run of a schedule.
func traced(g api.Graph, q int, d api.Divisor, l []Event) (*trace, api.Errno) {
	r, e := newRun(g, q, d)
	if e != api.OK {
		return nil, e
	}
	if e := Check(g, l); e != api.OK {
		return nil, e
	}
	t := &trace{run: r}
	for _, x := range l {
		t.follow(x)
	}
	return t, api.OK
}

// follow lets an event happen.
func (t *trace) follow(x Event) {
	t.fired = append(t.fired, -1)
	switch x.Kind {
	case EventPick:
		pick(x.Value, vertices{t.run, t.fire})
	case EventDrop:
		t.chips[x.Value]++
	}
}

// fire lets a vertex fire at the last event.
func (t *trace) fire(v int) {
	t.fired[len(t.fired)-1] = v
	t.run.fire(v)
}
