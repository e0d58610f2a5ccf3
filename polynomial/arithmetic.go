package polynomial

import (
	"slices"

	"sandpile/api"
	"sandpile/integer"
)

// power stands for X^x Y^y.
type power struct{ x, y int }

// collection has the coefficients of the powers, but for those that are 0.
type collection map[power]api.Int

// add adds a polynomial to the collection; the errors are those of Add.
func (c collection) add(p api.Poly) api.Errno {
	for _, t := range p {
		if e := c.addTerm(t); e != api.OK {
			return e
		}
	}
	// All coefficients are known here: one that is too long comes before too many of them.
	if len(c) > api.MaxTerms {
		return api.ErrMany
	}
	return api.OK
}

// addTerm adds a term to the collection.
func (c collection) addTerm(t api.Term) api.Errno {
	at := power{t.X, t.Y}
	old, found := c[at]
	if !found {
		old = "0"
	}
	coef, e := integer.Add(old, t.Coef)
	if e != api.OK {
		return e
	}
	if coef == "0" {
		delete(c, at)
	} else {
		c[at] = coef
	}
	return api.OK
}

// sorted returns the polynomial of the collection.
func (c collection) sorted() api.Poly {
	p := make(api.Poly, 0, len(c))
	for at, coef := range c {
		p = append(p, api.Term{X: at.x, Y: at.y, Coef: coef})
	}
	slices.SortFunc(p, descending)
	return p
}

// Add returns the sum.
func Add(p, q api.Poly) (api.Poly, api.Errno) {
	if e := checkTwo(p, q); e != api.OK {
		return nil, e
	}
	return sum(p, q)
}

// Sub returns the difference.
func Sub(p, q api.Poly) (api.Poly, api.Errno) {
	if e := checkTwo(p, q); e != api.OK {
		return nil, e
	}
	negative, _ := times(q, api.Term{Coef: "-1"})
	return sum(p, negative)
}

// sum returns the sum of polynomials.
func sum(p, q api.Poly) (api.Poly, api.Errno) {
	c := collection{}
	for _, summand := range [2]api.Poly{p, q} {
		if e := c.add(summand); e != api.OK {
			return nil, e
		}
	}
	return c.sorted(), api.OK
}

// Mul returns the product.
func Mul(p, q api.Poly) (api.Poly, api.Errno) {
	if e := checkTwo(p, q); e != api.OK {
		return nil, e
	}
	if x, y := degrees(p); !fits(q, x, y) {
		return nil, api.ErrRange
	}
	c := collection{}
	for _, t := range p {
		multiple, e := times(q, t)
		if e != api.OK {
			return nil, e
		}
		if e := c.add(multiple); e != api.OK {
			return nil, e
		}
	}
	return c.sorted(), api.OK
}

// degrees returns the greatest exponents of X and of Y.
func degrees(p api.Poly) (int, int) {
	x, y := 0, 0
	for _, t := range p {
		x, y = max(x, t.X), max(y, t.Y)
	}
	return x, y
}

// times returns the product with a term.
func times(p api.Poly, t api.Term) (api.Poly, api.Errno) {
	multiple := make(api.Poly, 0, len(p))
	for _, u := range p {
		coef, e := integer.Mul(t.Coef, u.Coef)
		if e != api.OK {
			return nil, e
		}
		multiple = append(multiple, api.Term{X: t.X + u.X, Y: t.Y + u.Y, Coef: coef})
	}
	return multiple, api.OK
}

// Evaluate returns the value at x and y.
func Evaluate(p api.Poly, x, y api.Int) (api.Int, api.Errno) {
	if e := Check(p); e != api.OK {
		return "", e
	}
	for _, a := range [2]api.Int{x, y} {
		if e := integer.Check(a); e != api.OK {
			return "", e
		}
	}
	total := api.Int("0")
	for _, t := range p {
		value, e := valueOf(t, x, y)
		if e != api.OK {
			return "", e
		}
		total, e = integer.Add(total, value)
		if e != api.OK {
			return "", e
		}
	}
	return total, api.OK
}

// valueOf returns the value of a term. A power that is too long has its error even if it would be multiplied by 0.
func valueOf(t api.Term, x, y api.Int) (api.Int, api.Errno) {
	powerOfX, e := integer.Pow(x, t.X)
	if e != api.OK {
		return "", e
	}
	powerOfY, e := integer.Pow(y, t.Y)
	if e != api.OK {
		return "", e
	}
	value, e := integer.Mul(t.Coef, powerOfX)
	if e != api.OK {
		return "", e
	}
	return integer.Mul(value, powerOfY)
}
