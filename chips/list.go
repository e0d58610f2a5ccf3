package chips

import (
	"slices"

	"sandpile/api"
)

// All returns all effective divisors of the degree k on n vertices, in lexicographic order.
func All(n, k int) ([]api.Divisor, api.Errno) {
	if k < 0 {
		return nil, api.ErrRange
	}
	first, e := Some(n, n-1, k)
	if e != api.OK {
		return nil, e
	}
	if areMany(n, k) {
		return nil, api.ErrLimit
	}
	var l []api.Divisor
	for d, more := first, true; more; d, more = next(d) {
		l = append(l, d)
	}
	return l, api.OK
}

// areMany tells whether more than MaxFound effective divisors on n vertices have the degree k.
func areMany(n, k int) bool {
	// On i + 1 vertices there are (k + 1) .. (k + i) / i! of them, which do not become fewer with i.
	count := 1
	for i := 1; i < n && count <= api.MaxFound; i++ {
		count = count * (k + i) / i
	}
	return count > api.MaxFound
}

// Next returns the next effective divisor of the same degree, if there is one.
func Next(d api.Divisor) (api.Divisor, bool, api.Errno) {
	if e := check(d); e != api.OK {
		return nil, false, e
	}
	if !isEffective(d) {
		return nil, false, api.ErrState
	}
	if isLarge(degree(d)) {
		return nil, false, api.ErrLarge
	}
	behind, more := next(d)
	return behind, more, api.OK
}

// next returns the next effective divisor behind one, if there is one.
func next(d api.Divisor) (api.Divisor, bool) {
	end := len(d) - 1
	last := end
	for last > 0 && d[last] == 0 {
		last--
	}
	if last == 0 {
		return nil, false
	}
	// The last vertex with chips gives one to the vertex before it; the others become as small as they can be.
	behind := slices.Clone(d)
	behind[last-1]++
	behind[last] = 0
	behind[end] = d[last] - 1
	return behind, true
}
