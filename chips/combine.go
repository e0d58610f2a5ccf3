package chips

import (
	"slices"

	"sandpile/api"
)

// Add returns the sum.
func Add(a, b api.Divisor) (api.Divisor, api.Errno) {
	return combined(a, b, func(x, y int) int { return x + y })
}

// Sub returns the difference.
func Sub(a, b api.Divisor) (api.Divisor, api.Errno) {
	return combined(a, b, func(x, y int) int { return x - y })
}

// Meet returns the divisor with the lesser number of chips at each vertex.
func Meet(a, b api.Divisor) (api.Divisor, api.Errno) {
	return combined(a, b, func(x, y int) int { return min(x, y) })
}

// Join returns the divisor with the greater number of chips at each vertex.
func Join(a, b api.Divisor) (api.Divisor, api.Errno) {
	return combined(a, b, func(x, y int) int { return max(x, y) })
}

// combined returns what a function makes of the chips of two divisors at each vertex.
func combined(a, b api.Divisor, of func(x, y int) int) (api.Divisor, api.Errno) {
	if e := check(a, b); e != api.OK {
		return nil, e
	}
	d := slices.Clone(a)
	for v := range d {
		d[v] = of(a[v], b[v])
	}
	if slices.ContainsFunc(d, isLarge) {
		return nil, api.ErrLarge
	}
	return d, api.OK
}

// Neg returns the divisor with the opposite number of chips at each vertex.
func Neg(d api.Divisor) (api.Divisor, api.Errno) { return Scale(d, -1) }

// Scale returns the divisor with k times as many chips at each vertex.
func Scale(d api.Divisor, k int) (api.Divisor, api.Errno) {
	return combined(d, d, func(x, _ int) int {
		// A greater factor is out of range with all chips but 0, also where the product would wrap around.
		if isLarge(k) && x != 0 {
			return k
		}
		return x * k
	})
}

// Compare returns -1, 0 or 1 if a is less than, equal to or greater than b in the lexicographic order.
func Compare(a, b api.Divisor) (int, api.Errno) {
	if e := check(a, b); e != api.OK {
		return 0, e
	}
	return slices.Compare(a, b), api.OK
}

// Above reports whether a has at least as many chips as b at each vertex.
func Above(a, b api.Divisor) (bool, api.Errno) {
	meet, e := Meet(a, b)
	if e != api.OK {
		return false, e
	}
	return slices.Equal(meet, b), api.OK
}
