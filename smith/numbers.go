package smith

import (
	"sandpile/api"
	"sandpile/integer"
	"sandpile/matrix"
)

// limited runs a computation and returns the error that ended it. The functions below panic with the errors of the layers below, so that the steps of a computation need not pass them on.
func limited(compute func()) (e api.Errno) {
	defer func() {
		switch failure := recover().(type) {
		case nil:
		case api.Errno:
			e = failure
		default:
			panic(failure)
		}
	}()
	compute()
	return api.OK
}

// known returns a result that has no error.
func known[R any](result R, e api.Errno) R {
	if e != api.OK {
		panic(e)
	}
	return result
}

func sum(a, b api.Int) api.Int        { return known(integer.Add(a, b)) }
func difference(a, b api.Int) api.Int { return known(integer.Sub(a, b)) }
func times(a, b api.Int) api.Int      { return known(integer.Mul(a, b)) }
func quotient(a, b api.Int) api.Int   { return known(integer.Quo(a, b)) }
func remainder(a, b api.Int) api.Int  { return known(integer.Rem(a, b)) }
func common(a, b api.Int) api.Int     { return known(integer.Gcd(a, b)) }
func size(a api.Int) api.Int          { return known(integer.Abs(a)) }
func isLess(a, b api.Int) bool        { return known(integer.Compare(a, b)) < 0 }

// bezout returns the greatest common divisor of two integers and its coefficients.
func bezout(a, b api.Int) (api.Int, api.Int, api.Int) {
	divisor, x, y, e := integer.Bezout(a, b)
	known(divisor, e)
	return divisor, x, y
}

func unit(n int) api.Matrix                       { return known(matrix.Unit(n)) }
func product(a, b api.Matrix) api.Matrix          { return known(matrix.Product(a, b)) }
func transposed(m api.Matrix) api.Matrix          { return known(matrix.Transpose(m)) }
func applied(m api.Matrix, l []api.Int) []api.Int { return known(matrix.Apply(m, l)) }
