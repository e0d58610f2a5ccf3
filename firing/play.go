package firing

import (
	"slices"

	"sandpile/api"
	"sandpile/graph"
)

// Play fires vertices in order, each of them legally, and returns the divisor behind them and how many they are.
func Play(g api.Graph, d api.Divisor, moves []int) (api.Divisor, int, api.Errno) {
	if e := checkDivisor(g, d); e != api.OK {
		return nil, 0, e
	}
	if e := checkMoves(g, moves); e != api.OK {
		return nil, 0, e
	}
	behind := slices.Clone(d)
	for i, v := range moves {
		if !isLegal(g, behind, []int{v}) {
			return nil, i, api.ErrLegal
		}
		next, e := Fire(g, behind, v)
		if e != api.OK {
			return nil, i, e
		}
		behind = next
	}
	return behind, len(moves), api.OK
}

// Count returns how often each vertex occurs in a list of moves.
func Count(g api.Graph, moves []int) (api.Script, api.Errno) {
	if e := graph.Check(g); e != api.OK {
		return nil, e
	}
	if e := checkMoves(g, moves); e != api.OK {
		return nil, e
	}
	s := make(api.Script, g.N)
	for _, v := range moves {
		s[v]++
	}
	return s, api.OK
}

// checkMoves returns OK for lists of vertices that are not too long.
func checkMoves(g api.Graph, moves []int) api.Errno {
	if len(moves) > api.MaxEvents {
		return api.ErrMany
	}
	if slices.ContainsFunc(moves, vertices(g.N).lack) {
		return api.ErrRange
	}
	return api.OK
}

// vertices are the numbers from 0 on, as many as this number says.
type vertices int

// lack tells whether a number is no vertex.
func (n vertices) lack(v int) bool { return v < 0 || v >= int(n) }
