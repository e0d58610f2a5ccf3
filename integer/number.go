package integer

import (
	"math/bits"

	"sandpile/api"
)

// number is an integer with its sign; 0 is not negative.
type number struct {
	negative bool
	size     words
}

// signed returns a number of this size, which may be 0.
func signed(negative bool, size words) number {
	return number{negative && len(size) > 0, size}
}

// sign returns -1, 0 or 1.
func (n number) sign() int {
	switch {
	case n.negative:
		return -1
	case len(n.size) == 0:
		return 0
	}
	return 1
}

// compare returns -1, 0 or 1.
func (n number) compare(m number) int {
	switch {
	case n.negative != m.negative:
		return sign(n.sign() - m.sign())
	case n.negative:
		return m.size.compare(n.size)
	}
	return n.size.compare(m.size)
}

// opposite returns the opposite number.
func (n number) opposite() number {
	return signed(!n.negative, n.size)
}

// plus returns the sum.
func (n number) plus(m number) number {
	switch {
	case n.negative == m.negative:
		return number{n.negative, n.size.plus(m.size)}
	case n.size.compare(m.size) < 0:
		return signed(m.negative, m.size.minus(n.size))
	}
	return signed(n.negative, n.size.minus(m.size))
}

// minus returns the difference.
func (n number) minus(m number) number {
	return n.plus(m.opposite())
}

// times returns the product.
func (n number) times(m number) number {
	return signed(n.negative != m.negative, n.size.times(m.size))
}

// divide returns the quotient, rounded down, and the remainder with the sign of m, which is not 0.
func (n number) divide(m number) (number, number) {
	size, rest := n.size.divide(m.size)
	quotient := signed(n.negative != m.negative, size)
	remainder := signed(n.negative, rest)
	if len(rest) > 0 && n.negative != m.negative {
		return quotient.minus(number{size: words{1}}), remainder.plus(m)
	}
	return quotient, remainder
}

// coefficients returns the greatest common divisor of n and m, and the coefficients of Bezout.
func (n number) coefficients(m number) (number, number, number) {
	if m.sign() == 0 {
		return number{size: n.size}, n.signum(), number{}
	}
	divisor, x := n.inverse(number{size: m.size})
	period, _ := number{size: m.size}.divide(divisor)
	_, x = x.divide(period)
	y, _ := divisor.minus(n.times(x)).divide(m)
	return divisor, x, y
}

// signum returns the sign as a number.
func (n number) signum() number {
	if n.sign() == 0 {
		return number{}
	}
	return number{n.negative, words{1}}
}

// inverse returns the greatest common divisor of n and m, which is greater than 0, and some x for which n x less this divisor is a multiple of m.
func (n number) inverse(m number) (number, number) {
	// Each rest is congruent to n times its factor.
	rest, factor := m, number{}
	_, next := n.divide(m)
	nextFactor := number{size: words{1}}
	for next.sign() > 0 {
		quotient, remainder := rest.divide(next)
		rest, next = next, remainder
		factor, nextFactor = nextFactor, factor.minus(quotient.times(nextFactor))
	}
	return rest, factor
}

// power returns a power with an exponent that is not negative.
func (n number) power(exponent int) (number, api.Errno) {
	result := number{size: words{1}}
	for bit := bits.Len(uint(exponent)) - 1; bit >= 0; bit-- {
		result = result.times(result)
		if exponent>>bit&1 == 1 {
			result = result.times(n)
		}
		// The result so far is a power with a lower exponent: if it is too long, so is the last one.
		if result.size.digits() > api.MaxLong {
			return number{}, api.ErrLarge
		}
	}
	return result, api.OK
}
