// Package integer implements layer 1: integers of any size.
package integer

import (
	"strconv"
	"strings"

	"sandpile/api"
)

// Check returns OK for canonical integers.
func Check(a api.Int) api.Errno {
	digits := strings.TrimPrefix(string(a), "-")
	if !allDigits(digits) || digits[0] == '0' && a != "0" {
		return api.ErrForm
	}
	if len(digits) > api.MaxLong {
		return api.ErrLarge
	}
	return api.OK
}

// allDigits looks at bytes, because only the ten ASCII digits count.
func allDigits(s string) bool {
	for i := range len(s) {
		if s[i] < '0' || s[i] > '9' {
			return false
		}
	}
	return s != ""
}

// Of returns an int as an integer.
func Of(n int) api.Int { return api.Int(strconv.Itoa(n)) }

// Small returns an integer as an int.
func Small(a api.Int) (int, api.Errno) {
	if e := Check(a); e != api.OK {
		return 0, e
	}
	n, err := strconv.Atoi(string(a))
	if err != nil {
		return 0, api.ErrRange
	}
	return n, api.OK
}

// Sign returns -1, 0 or 1 for negative numbers, 0 and positive numbers.
func Sign(a api.Int) (int, api.Errno) {
	x, e := read(a)
	if e != api.OK {
		return 0, e
	}
	return x.sign(), api.OK
}

// Compare returns -1, 0 or 1 if a is less than, equal to or greater than b.
func Compare(a, b api.Int) (int, api.Errno) {
	x, y, e := readTwo(a, b)
	if e != api.OK {
		return 0, e
	}
	return x.compare(y), api.OK
}

// Neg returns the opposite number.
func Neg(a api.Int) (api.Int, api.Errno) {
	x, e := read(a)
	if e != api.OK {
		return "", e
	}
	return x.opposite().text()
}

// Abs returns the absolute value.
func Abs(a api.Int) (api.Int, api.Errno) {
	x, e := read(a)
	if e != api.OK {
		return "", e
	}
	return number{size: x.size}.text()
}

// Add returns the sum.
func Add(a, b api.Int) (api.Int, api.Errno) {
	x, e := read(a)
	if e != api.OK {
		return "", e
	}
	return applied(x.plus, b)
}

// Sub returns the difference.
func Sub(a, b api.Int) (api.Int, api.Errno) {
	x, e := read(a)
	if e != api.OK {
		return "", e
	}
	return applied(x.minus, b)
}

// Mul returns the product.
func Mul(a, b api.Int) (api.Int, api.Errno) {
	x, e := read(a)
	if e != api.OK {
		return "", e
	}
	return applied(x.times, b)
}

// applied applies an operation, which already holds its first number, to a second one.
func applied(operation func(number) number, b api.Int) (api.Int, api.Errno) {
	y, e := read(b)
	if e != api.OK {
		return "", e
	}
	return operation(y).text()
}

// Quo returns the quotient, rounded down.
func Quo(a, b api.Int) (api.Int, api.Errno) {
	quotient, _, e := divided(a, b)
	if e != api.OK {
		return "", e
	}
	return quotient.text()
}

// Rem returns the remainder of the quotient.
func Rem(a, b api.Int) (api.Int, api.Errno) {
	_, remainder, e := divided(a, b)
	if e != api.OK {
		return "", e
	}
	return remainder.text()
}

// divided returns the quotient and the remainder.
func divided(a, b api.Int) (number, number, api.Errno) {
	x, y, e := readTwo(a, b)
	if e != api.OK {
		return number{}, number{}, e
	}
	if y.sign() == 0 {
		return number{}, number{}, api.ErrZero
	}
	quotient, remainder := x.divide(y)
	return quotient, remainder, api.OK
}

// Gcd returns the greatest common divisor.
func Gcd(a, b api.Int) (api.Int, api.Errno) {
	x, y, e := readTwo(a, b)
	if e != api.OK {
		return "", e
	}
	return number{size: x.size.commonDivisor(y.size)}.text()
}

// Bezout returns the greatest common divisor g, and x and y with a x + b y = g.
func Bezout(a, b api.Int) (api.Int, api.Int, api.Int, api.Errno) {
	p, q, e := readTwo(a, b)
	if e != api.OK {
		return "", "", "", e
	}
	divisor, first, second := p.coefficients(q)
	// None of the three is too long: the coefficients have at most as many digits as b and a.
	g, _ := divisor.text()
	x, _ := first.text()
	y, _ := second.text()
	return g, x, y, api.OK
}

// Pow returns a power.
func Pow(a api.Int, n int) (api.Int, api.Errno) {
	x, e := read(a)
	if e != api.OK {
		return "", e
	}
	if n < 0 || n > api.MaxEvents {
		return "", api.ErrRange
	}
	power, e := x.power(n)
	if e != api.OK {
		return "", e
	}
	return power.text()
}

// Sum returns the sum of integers.
func Sum(l []api.Int) (api.Int, api.Errno) {
	if len(l) > api.MaxEvents {
		return "", api.ErrMany
	}
	// Only the whole sum may be too long: sums on the way to it may be longer.
	total := number{}
	for _, a := range l {
		x, e := read(a)
		if e != api.OK {
			return "", e
		}
		total = total.plus(x)
	}
	return total.text()
}
