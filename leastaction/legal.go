package leastaction

import (
	"slices"

	"sandpile/api"
	"sandpile/chips"
)

// Legal returns the vertices of a legal script in an order in which each of them is unstable when it fires, and whether it is legal.
func Legal(g api.Graph, q int, d api.Divisor, s api.Script) ([]int, bool, api.Errno) {
	p, e := newPile(g, q, d, s)
	if e != api.OK {
		return nil, false, e
	}
	if !p.isPlayable(s) {
		return nil, false, api.ErrRange
	}
	sum, e := chips.Degree(api.Divisor(s))
	if e != api.OK {
		return nil, false, e
	}
	if sum > api.MaxEvents {
		return nil, false, api.ErrLimit
	}
	moves := p.play(s)
	if len(moves) < sum {
		return nil, false, api.OK
	}
	return moves, true, api.OK
}

// play fires unstable vertices, always the least one that has not fired as often as a script says, and returns them. No order gets further than this one, as a vertex remains unstable until it fires.
func (p pile) play(s api.Script) []int {
	var moves []int
	fired := make(api.Script, len(s))
	may := func(v int) bool { return fired[v] < s[v] }
	for {
		l := p.unstable(fired)
		i := slices.IndexFunc(l, may)
		if i < 0 {
			return moves
		}
		fired[l[i]]++
		moves = append(moves, l[i])
	}
}
