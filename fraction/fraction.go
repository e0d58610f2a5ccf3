// Package fraction implements layer 2: fractions.
package fraction

import (
	"sandpile/api"
	"sandpile/integer"
)

// Check returns OK for fractions in lowest terms.
func Check(a api.Frac) api.Errno {
	if e := checkTwo(a.Num, a.Den); e != api.OK {
		return e
	}
	if sign, _ := integer.Sign(a.Den); sign <= 0 {
		return api.ErrForm
	}
	if divisor, _ := integer.Gcd(a.Num, a.Den); divisor != "1" {
		return api.ErrForm
	}
	return api.OK
}

// checkTwo returns the first error of two integers.
func checkTwo(a, b api.Int) api.Errno {
	if e := integer.Check(a); e != api.OK {
		return e
	}
	return integer.Check(b)
}

// Make returns the fraction of two integers in lowest terms.
func Make(num, den api.Int) (api.Frac, api.Errno) {
	if e := checkTwo(num, den); e != api.OK {
		return api.Frac{}, e
	}
	if den == "0" {
		return api.Frac{}, api.ErrZero
	}
	return lowest(num, den), api.OK
}

// lowest returns the fraction of two canonical integers in lowest terms; den is not 0. Nothing becomes longer here, so there are no errors.
func lowest(num, den api.Int) api.Frac {
	if sign, _ := integer.Sign(den); sign < 0 {
		num, _ = integer.Neg(num)
		den, _ = integer.Neg(den)
	}
	divisor, _ := integer.Gcd(num, den)
	num, _ = integer.Quo(num, divisor)
	den, _ = integer.Quo(den, divisor)
	return api.Frac{Num: num, Den: den}
}

// Of returns the fraction of two ints in lowest terms.
func Of(num, den int) (api.Frac, api.Errno) {
	return Make(integer.Of(num), integer.Of(den))
}

// Add returns the sum.
func Add(a, b api.Frac) (api.Frac, api.Errno) {
	return checked(a, b, add)
}

// Sub returns the difference.
func Sub(a, b api.Frac) (api.Frac, api.Errno) {
	return checked(a, b, func(a, b api.Frac) (api.Frac, api.Errno) {
		return combined(a, b, integer.Sub)
	})
}

// Mul returns the product.
func Mul(a, b api.Frac) (api.Frac, api.Errno) {
	return checked(a, b, func(a, b api.Frac) (api.Frac, api.Errno) {
		return multiplied(a, b.Num, b.Den)
	})
}

// Div returns the quotient.
func Div(a, b api.Frac) (api.Frac, api.Errno) {
	return checked(a, b, func(a, b api.Frac) (api.Frac, api.Errno) {
		if b.Num == "0" {
			return api.Frac{}, api.ErrZero
		}
		return multiplied(a, b.Den, b.Num)
	})
}

// Compare returns -1, 0 or 1 if a is less than, equal to or greater than b.
func Compare(a, b api.Frac) (int, api.Errno) {
	return checked(a, b, func(a, b api.Frac) (int, api.Errno) {
		first, second, e := crossed(a, b)
		if e != api.OK {
			return 0, e
		}
		return integer.Compare(first, second)
	})
}

// checked checks two fractions and makes the result of an operation on them.
func checked[R any](a, b api.Frac, operation func(a, b api.Frac) (R, api.Errno)) (R, api.Errno) {
	for _, x := range [2]api.Frac{a, b} {
		if e := Check(x); e != api.OK {
			return *new(R), e
		}
	}
	return operation(a, b)
}

// add returns the sum of two fractions in lowest terms.
func add(a, b api.Frac) (api.Frac, api.Errno) {
	return combined(a, b, integer.Add)
}

// combined brings two fractions to one denominator, the product of theirs, and adds or subtracts their numerators.
func combined(a, b api.Frac, operation func(a, b api.Int) (api.Int, api.Errno)) (api.Frac, api.Errno) {
	first, second, e := crossed(a, b)
	if e != api.OK {
		return api.Frac{}, e
	}
	num, e := operation(first, second)
	if e != api.OK {
		return api.Frac{}, e
	}
	den, e := integer.Mul(a.Den, b.Den)
	if e != api.OK {
		return api.Frac{}, e
	}
	return lowest(num, den), api.OK
}

// crossed multiplies each numerator by the denominator of the other fraction.
func crossed(a, b api.Frac) (api.Int, api.Int, api.Errno) {
	return products(a.Num, b.Den, b.Num, a.Den)
}

// multiplied returns a times num / den, where den is not 0.
func multiplied(a api.Frac, num, den api.Int) (api.Frac, api.Errno) {
	above, below, e := products(a.Num, num, a.Den, den)
	if e != api.OK {
		return api.Frac{}, e
	}
	return lowest(above, below), api.OK
}

// products returns p times q, and r times s.
func products(p, q, r, s api.Int) (api.Int, api.Int, api.Errno) {
	first, e := integer.Mul(p, q)
	if e != api.OK {
		return "", "", e
	}
	second, e := integer.Mul(r, s)
	if e != api.OK {
		return "", "", e
	}
	return first, second, api.OK
}

// Neg returns the opposite fraction.
func Neg(a api.Frac) (api.Frac, api.Errno) {
	if e := Check(a); e != api.OK {
		return api.Frac{}, e
	}
	num, _ := integer.Neg(a.Num)
	return api.Frac{Num: num, Den: a.Den}, api.OK
}

// Floor returns the greatest integer that is not greater.
func Floor(a api.Frac) (api.Int, api.Errno) {
	if e := Check(a); e != api.OK {
		return "", e
	}
	return integer.Quo(a.Num, a.Den)
}

// Sum adds the elements of a list to 0, one after another.
func Sum(l []api.Frac) (api.Frac, api.Errno) {
	if len(l) > api.MaxEvents {
		return api.Frac{}, api.ErrMany
	}
	for _, a := range l {
		if e := Check(a); e != api.OK {
			return api.Frac{}, e
		}
	}
	total := api.Frac{Num: "0", Den: "1"}
	for _, a := range l {
		sum, e := add(total, a)
		if e != api.OK {
			return api.Frac{}, e
		}
		total = sum
	}
	return total, api.OK
}
