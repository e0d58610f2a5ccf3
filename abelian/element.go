package abelian

import (
	"iter"
	"slices"

	"sandpile/api"
	"sandpile/integer"
)

// Element returns the element of any integers.
func Element(g, l []api.Int) ([]api.Int, api.Errno) {
	if e := Check(g); e != api.OK {
		return nil, e
	}
	return combined(l, g, integer.Rem)
}

// Add returns the sum of two elements.
func Add(g, a, b []api.Int) ([]api.Int, api.Errno) {
	if e := Check(g); e != api.OK {
		return nil, e
	}
	if e := checkElement(g, a); e != api.OK {
		return nil, e
	}
	if e := checkElement(g, b); e != api.OK {
		return nil, e
	}
	pairs, _ := combined(a, b, pairOf)
	return combined(pairs, g, sum)
}

// Neg returns the opposite element.
func Neg(g, a []api.Int) ([]api.Int, api.Errno) {
	if e := Check(g); e != api.OK {
		return nil, e
	}
	if e := checkElement(g, a); e != api.OK {
		return nil, e
	}
	return combined(a, g, opposite)
}

// Times returns a multiple of an element.
func Times(g []api.Int, k api.Int, a []api.Int) ([]api.Int, api.Errno) {
	if e := Check(g); e != api.OK {
		return nil, e
	}
	if e := integer.Check(k); e != api.OK {
		return nil, e
	}
	if e := checkElement(g, a); e != api.OK {
		return nil, e
	}
	return combined(a, g, func(a, factor api.Int) (api.Int, api.Errno) {
		return multiple(k, a, factor)
	})
}

// OrderOf returns the order of an element.
func OrderOf(g, a []api.Int) (api.Int, api.Errno) {
	if e := Check(g); e != api.OK {
		return "", e
	}
	if e := checkElement(g, a); e != api.OK {
		return "", e
	}
	orders, _ := combined(a, g, order)
	least := api.Int("1")
	for _, n := range orders {
		least = leastMultiple(least, n)
	}
	return least, api.OK
}

// Elements returns all elements.
func Elements(g []api.Int) ([][]api.Int, api.Errno) {
	if e := Check(g); e != api.OK {
		return nil, e
	}
	if !isFew(g) {
		return nil, api.ErrLimit
	}
	return slices.Collect(elements(g)), api.OK
}

// isFew tells whether a group has at most MaxFound elements.
func isFew(g []api.Int) bool {
	number, e := product(g)
	if e != api.OK {
		return false
	}
	n, e := integer.Small(number)
	return e == api.OK && n <= api.MaxFound
}

// elements yields all elements in lexicographic order, as a clock shows its numbers.
func elements(g []api.Int) iter.Seq[[]api.Int] {
	return func(yield func([]api.Int) bool) {
		shown := slices.Repeat([]api.Int{"0"}, len(g))
		for around := false; !around; around = turn(g, shown) {
			if !yield(slices.Clone(shown)) {
				return
			}
		}
	}
}

// turn moves the last residue on by 1, and the one before each residue that comes back to 0; it tells whether all of them came back.
func turn(g, shown []api.Int) bool {
	for i := len(g) - 1; i >= 0; i-- {
		shown[i], _ = sum(pair{shown[i], "1"}, g[i])
		if shown[i] != "0" {
			return false
		}
	}
	return true
}

// checkElement returns the error of an element of a right group.
func checkElement(g, a []api.Int) api.Errno {
	_, e := combined(a, g, residue)
	return e
}
