package parallel

import (
	"sandpile/api"
	"sandpile/chips"
	"sandpile/connect"
	"sandpile/graph"
)

// Game says how a closed game goes on.
type Game struct {
	Before, Period, Fired int
	Ends                  bool
}

// Check returns OK for divisors with which a closed game can be played.
func Check(g api.Graph, d api.Divisor) api.Errno {
	if e := checkGraph(g); e != api.OK {
		return e
	}
	if e := chips.Check(d, g.N); e != api.OK {
		return e
	}
	effective, e := chips.Effective(d)
	if e != api.OK {
		return e
	}
	if !effective {
		return api.ErrRange
	}
	degree, e := chips.Degree(d)
	if e == api.OK && degree > api.MaxChips {
		return api.ErrLarge
	}
	return e
}

// checkGraph returns OK for connected graphs.
func checkGraph(g api.Graph) api.Errno {
	connected, e := connect.Connected(g)
	if e == api.OK && !connected {
		return api.ErrParted
	}
	return e
}

// Closed returns the divisor behind a round of a closed game, and the vertices that have fired in it.
func Closed(g api.Graph, d api.Divisor) (api.Divisor, []int, api.Errno) {
	if e := Check(g, d); e != api.OK {
		return nil, nil, e
	}
	return withoutSink(g).round(d)
}

// moment is a number of rounds, and of the firings in them.
type moment struct{ rounds, fired int }

// Play returns how a closed game goes on.
func Play(g api.Graph, d api.Divisor) (Game, api.Errno) {
	if e := Check(g, d); e != api.OK {
		return Game{}, e
	}
	var now moment
	occurred := map[row]moment{rowOf(d): now}
	for fired, r := range withoutSink(g).rounds(d) {
		if now.rounds == api.MaxEvents {
			break
		}
		now = moment{now.rounds + 1, now.fired + len(fired)}
		if first, again := occurred[r]; again {
			return Game{first.rounds, now.rounds - first.rounds, now.fired - first.fired, len(fired) == 0}, api.OK
		}
		occurred[r] = now
	}
	return Game{}, api.ErrLimit
}

// Certain tells whether all closed games with a number of chips end (1), or none does (-1), or neither is certain (0).
func Certain(g api.Graph, chips int) (int, api.Errno) {
	if e := checkGraph(g); e != api.OK {
		return 0, e
	}
	if chips < 0 || chips > api.MaxChips {
		return 0, api.ErrRange
	}
	loopless, e := graph.Loopless(g)
	if e != api.OK {
		return 0, e
	}
	size, e := graph.Size(loopless)
	switch {
	case e != api.OK:
		return 0, e
	case g.N == 1 || chips < size:
		return 1, api.OK
	case chips > 2*size-g.N:
		return -1, api.OK
	}
	return 0, api.OK
}
