package chips

import (
	"slices"

	"sandpile/api"
)

// Degree returns the sum of the chips.
func Degree(d api.Divisor) (int, api.Errno) {
	if e := check(d); e != api.OK {
		return 0, e
	}
	return degree(d), api.OK
}

// degree returns the sum of the chips of a right divisor.
func degree(d api.Divisor) int {
	sum := 0
	for _, k := range d {
		sum += k
	}
	return sum
}

// Effective reports whether there are no debts.
func Effective(d api.Divisor) (bool, api.Errno) {
	if e := check(d); e != api.OK {
		return false, e
	}
	return isEffective(d), api.OK
}

// isEffective tells whether a right divisor has no debts.
func isEffective(d api.Divisor) bool { return slices.Min(d) >= 0 }

// Support returns the vertices whose chips are not 0.
func Support(d api.Divisor) ([]int, api.Errno) {
	if e := check(d); e != api.OK {
		return nil, e
	}
	var l []int
	for v, k := range d {
		if k != 0 {
			l = append(l, v)
		}
	}
	return l, api.OK
}

// Parts returns the divisor of the chips that are greater than 0, and that of the debts.
func Parts(d api.Divisor) (api.Divisor, api.Divisor, api.Errno) {
	if e := check(d); e != api.OK {
		return nil, nil, e
	}
	positive, negative := make(api.Divisor, len(d)), make(api.Divisor, len(d))
	for v, k := range d {
		positive[v], negative[v] = max(k, 0), max(-k, 0)
	}
	return positive, negative, api.OK
}
