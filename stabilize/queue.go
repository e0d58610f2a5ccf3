package stabilize

import "sandpile/api"

// queue has the vertices that wait, without repetition: it says of each vertex whether it does.
type queue [api.MaxVertices]bool

// list returns the vertices that wait, in order.
func (q *queue) list() []int {
	var l []int
	for v, waits := range q {
		if waits {
			l = append(l, v)
		}
	}
	return l
}

// take takes the least vertex out of the queue, if there is one.
func (q *queue) take() (int, bool) {
	for v, waits := range q {
		if waits {
			q[v] = false
			return v, true
		}
	}
	return 0, false
}

// isEmpty tells whether no vertex waits.
func (q *queue) isEmpty() bool { return *q == queue{} }

// drain takes vertices out of the queue until it is empty, and does something with each, which may let others wait. It does so at most so many times, and tells whether the queue is empty then.
func (q *queue) drain(most int, do func(v int)) bool {
	for range most {
		v, waits := q.take()
		if !waits {
			return true
		}
		do(v)
	}
	return q.isEmpty()
}
