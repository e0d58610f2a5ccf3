package abelian

import (
	"sandpile/api"
	"sandpile/integer"
)

// pair has the residues of two elements at the same place.
type pair struct{ a, b api.Int }

func pairOf(a, b api.Int) (pair, api.Errno) { return pair{a, b}, api.OK }

// combined combines what two lists have at the same places, up to the first error; lists of different lengths do not fit.
func combined[A, B, C any](a []A, b []B, combine func(A, B) (C, api.Errno)) ([]C, api.Errno) {
	if len(a) != len(b) {
		return nil, api.ErrShape
	}
	list := make([]C, 0, len(a))
	for i := range a {
		c, e := combine(a[i], b[i])
		if e != api.OK {
			return nil, e
		}
		list = append(list, c)
	}
	return list, api.OK
}

// residue returns an integer if it is a residue, and its error otherwise.
func residue(a, factor api.Int) (api.Int, api.Errno) {
	rest, e := integer.Rem(a, factor)
	switch {
	case e != api.OK:
		return "", e
	case rest != a:
		return "", api.ErrRange
	}
	return a, api.OK
}

// sum returns the residue of a sum. The factor is taken away first, because the sum itself may be too long.
func sum(p pair, factor api.Int) (api.Int, api.Errno) {
	less, _ := integer.Sub(p.b, factor)
	total, _ := integer.Add(p.a, less)
	return integer.Rem(total, factor)
}

// opposite returns the residue of the opposite number.
func opposite(a, factor api.Int) (api.Int, api.Errno) {
	negative, _ := integer.Neg(a)
	return integer.Rem(negative, factor)
}

// multiple returns the residue of k times a residue.
func multiple(k, a, factor api.Int) (api.Int, api.Errno) {
	k, _ = integer.Rem(k, factor)
	whole, e := integer.Mul(k, a)
	if e != api.OK {
		return longMultiple(k, a, factor), api.OK
	}
	return integer.Rem(whole, factor)
}

// longMultiple returns the residue of k times a without this product, which may be too long. If q and r are the quotient and the remainder of the factor and a, then q times a has the residue of -r, and so k times a that of (k mod q) times a less (k div q) times r. No number on the way is greater than the factor. The steps are few, because their quotients ascend.
func longMultiple(k, a, factor api.Int) api.Int {
	if k == "0" || a == "0" {
		return "0"
	}
	q, _ := integer.Quo(factor, a)
	r, _ := integer.Rem(factor, a)
	high, _ := integer.Quo(k, q)
	low, _ := integer.Rem(k, q)
	part, _ := integer.Mul(low, a)
	difference, _ := integer.Sub(part, longMultiple(high, r, factor))
	rest, _ := integer.Rem(difference, factor)
	return rest
}

// order returns the order of a residue.
func order(a, factor api.Int) (api.Int, api.Errno) {
	divisor, _ := integer.Gcd(a, factor)
	return integer.Quo(factor, divisor)
}

// leastMultiple returns the least common multiple of two orders. It divides the exponent of the group, so it is not too long.
func leastMultiple(m, n api.Int) api.Int {
	divisor, _ := integer.Gcd(m, n)
	part, _ := integer.Quo(m, divisor)
	least, _ := integer.Mul(part, n)
	return least
}
