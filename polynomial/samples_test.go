package polynomial_test

import (
	"math"
	"math/big"
	"math/rand"
	"slices"
	"strings"
	"testing"

	"sandpile/api"
	"sandpile/polynomial"
)

var (
	// longest is the greatest integer that is not too long.
	longest = api.Int(strings.Repeat("9", api.MaxLong))
	beyond  = longest + "0"
	// limit is the least number that is too long.
	limit = new(big.Int).Exp(big.NewInt(10), big.NewInt(api.MaxLong), nil)
)

// ten returns a power of ten.
func ten(n int) api.Int { return api.Int("1" + strings.Repeat("0", n)) }

// term returns a term.
func term(c api.Int, x, y int) api.Term { return api.Term{X: x, Y: y, Coef: c} }

// poly returns the polynomial of terms.
func poly(l ...api.Term) api.Poly { return l }

// block returns the polynomial with a coefficient for all exponents in a range.
func block(c api.Int, x, toX, y, toY int) api.Poly {
	p := poly()
	for i := toX; i >= x; i-- {
		for k := toY; k >= y; k-- {
			p = append(p, term(c, i, k))
		}
	}
	return p
}

// full has MaxTerms terms.
func full(c api.Int) api.Poly { return block(c, 0, 3, 0, 255) }

// wrongPoly is no polynomial; it has the error of Check.
type wrongPoly struct {
	p api.Poly
	e api.Errno
}

// wrong lists what is no polynomial.
func wrong() []wrongPoly {
	return []wrongPoly{
		{block("1", 0, 4, 0, 204), api.ErrMany}, {make(api.Poly, api.MaxTerms+1), api.ErrMany}, {slices.Repeat(poly(term("1", -1, 0)), api.MaxTerms+1), api.ErrMany},
		{poly(term("1", -1, 0)), api.ErrRange}, {poly(term("1", 0, -1)), api.ErrRange}, {poly(term("1", api.MaxList+1, 0)), api.ErrRange}, {poly(term("1", 0, api.MaxList+1)), api.ErrRange}, {poly(term("1", math.MaxInt, 0)), api.ErrRange}, {poly(term("1", 0, math.MinInt)), api.ErrRange},
		{make(api.Poly, 1), api.ErrForm}, {make(api.Poly, api.MaxTerms), api.ErrForm}, {poly(term("x", 1, 1)), api.ErrForm}, {poly(term("-0", 1, 1)), api.ErrForm}, {poly(term("+1", 1, 1)), api.ErrForm}, {poly(term("01", 0, 0)), api.ErrForm},
		{poly(term(beyond, 1, 1)), api.ErrLarge}, {poly(term("-"+beyond, 0, 0)), api.ErrLarge},
		{poly(term("0", 0, 0)), api.ErrForm}, {poly(term("0", 3, 1)), api.ErrForm}, {poly(term("1", 1, 1), term("0", 1, 0)), api.ErrForm},
		{poly(term("1", 1, 0), term("1", 1, 0)), api.ErrOrder}, {poly(term("1", 0, 0), term("1", 1, 0)), api.ErrOrder}, {poly(term("1", 0, 0), term("1", 0, 1)), api.ErrOrder}, {poly(term("1", 0, 9), term("1", 1, 0)), api.ErrOrder}, {poly(term("1", 2, 0), term("1", 1, 5), term("1", 1, 6)), api.ErrOrder}, {poly(term("1", 2, 0), term("1", 1, 5), term("1", 2, 0)), api.ErrOrder}, {append(block("1", 1, 4, 0, 254), term("1", 1, 0)), api.ErrOrder},
		// The exponents come before the coefficient, this before 0, and this before the order.
		{poly(term("x", -1, 0)), api.ErrRange}, {poly(term("0", 0, 257)), api.ErrRange}, {poly(term("1", 1, 0), term("x", 2, 0)), api.ErrForm}, {poly(term("1", 1, 0), term(beyond, 2, 0)), api.ErrLarge}, {poly(term("1", 1, 0), term("0", 2, 0)), api.ErrForm}, {poly(term("1", 1, 0), term("1", 257, 0)), api.ErrRange},
		// The first term with an error counts.
		{poly(term("x", 1, 0), term("1", -1, 0)), api.ErrForm}, {poly(term("1", 1, 0), term("1", 2, 0), term("x", 0, 0)), api.ErrOrder}, {poly(term(beyond, 1, 0), term("x", 0, 0)), api.ErrLarge}, {poly(term("x", 1, 0), term(beyond, 0, 0)), api.ErrForm}, {poly(term("1", 257, 0), term("x", 0, 0)), api.ErrRange}, {poly(term("0", 1, 0), term("1", 2, 0)), api.ErrForm},
	}
}

// samples lists polynomials.
func samples() []api.Poly {
	l := []api.Poly{
		nil, poly(term("1", 0, 0)), poly(term("-1", 0, 0)), poly(term("1", 1, 0)), poly(term("-1", 0, 1)), poly(term("1", 1, 1)), poly(term("2", 1, 0), term("-1", 0, 1)), poly(term("1", 1, 0), term("1", 0, 1), term("-1", 0, 0)), poly(term("-3", 2, 1), term("1", 0, 0)),
		poly(term("1", 2, 0), term("1", 1, 0), term("1", 0, 1)), poly(term("10", 10, 10), term("-1", 10, 1), term("11", 1, 10)),
		poly(term(longest, 0, 0)), poly(term("-"+longest, 1, 0), term(longest, 0, 1)), poly(term("1", api.MaxList, api.MaxList)), poly(term("-1", api.MaxList, 0), term("1", 0, api.MaxList)), poly(term("7", api.MaxList, 2), term("7", api.MaxList, 1), term("7", api.MaxList-1, api.MaxList)),
		full("1"), full("-2"), block("5", 0, 31, 0, 31), block("-1", 0, 256, 0, 0), block("1", 0, 0, 0, 256), block("1", 225, 256, 225, 256),
	}
	r := rand.New(rand.NewSource(1))
	for range 24 {
		l = append(l, random(r, r.Intn(12), r.Intn(9)+1, r.Intn(40)+1))
	}
	return l
}

// random returns a polynomial of at most so many terms, with exponents below a bound and coefficients of at most so many digits.
func random(r *rand.Rand, terms, bound, digits int) api.Poly {
	n := numbers{}
	for range terms {
		c := new(big.Int).Rand(r, new(big.Int).Exp(big.NewInt(10), big.NewInt(int64(digits)), nil))
		switch r.Intn(4) {
		case 0:
			c.SetInt64(int64(r.Intn(5) - 2))
		case 1, 2:
			c.Neg(c)
		}
		n[[2]int{r.Intn(bound), r.Intn(bound)}] = c
	}
	return n.poly()
}

// numbers has coefficients of package big by exponents.
type numbers map[[2]int]*big.Int

// reference returns a polynomial with numbers of package big.
func reference(p api.Poly) numbers {
	n := numbers{}
	for _, t := range p {
		n[[2]int{t.X, t.Y}] = numberOf(t.Coef)
	}
	return n
}

// poly returns the polynomial of coefficients, some of which may be 0.
func (n numbers) poly() api.Poly {
	p := poly()
	for at, c := range n {
		if c.Sign() != 0 {
			p = append(p, term(api.Int(c.String()), at[0], at[1]))
		}
	}
	// One number for both exponents, which are at most 2 * MaxList here.
	slices.SortFunc(p, func(t, u api.Term) int { return 1000*(u.X-t.X) + u.Y - t.Y })
	return p
}

// add adds a number to a coefficient.
func (n numbers) add(x, y int, c *big.Int) {
	old := n[[2]int{x, y}]
	if old == nil {
		old = new(big.Int)
	}
	n[[2]int{x, y}] = new(big.Int).Add(old, c)
}

// error returns ErrLarge or ErrMany if the coefficients are no polynomial.
func (n numbers) error() api.Errno {
	many := 0
	for _, c := range n {
		if tooLong(c) {
			return api.ErrLarge
		}
		if c.Sign() != 0 {
			many++
		}
	}
	if many > api.MaxTerms {
		return api.ErrMany
	}
	return api.OK
}

// tooLong tells whether a number has more than MaxLong digits.
func tooLong(n *big.Int) bool { return n.CmpAbs(limit) >= 0 }

// numberOf returns an integer as a number of package big.
func numberOf(a api.Int) *big.Int {
	n, ok := new(big.Int).SetString(string(a), 10)
	if !ok {
		panic("no integer: " + string(a))
	}
	return n
}

// agrees reports a result that is not the polynomial and the error wanted.
func agrees(t *testing.T, what string, got api.Poly, e api.Errno, want api.Poly, error api.Errno) {
	t.Helper()
	if !slices.Equal(got, want) || e != error {
		t.Errorf("%s: %.300v, %d instead of %.300v, %d", what, got, e, want, error)
	}
}

// agreesNumber reports a result that is not the integer and the error wanted.
func agreesNumber(t *testing.T, what string, got api.Int, e api.Errno, want api.Int, error api.Errno) {
	t.Helper()
	if got != want || e != error {
		t.Errorf("%s: %.300q, %d instead of %.300q, %d", what, got, e, want, error)
	}
}

// must returns a polynomial that has no error.
func must(t *testing.T) func(api.Poly, api.Errno) api.Poly {
	return func(p api.Poly, e api.Errno) api.Poly {
		t.Helper()
		if e != api.OK || polynomial.Check(p) != api.OK {
			t.Fatalf("%v with the error %d", p, e)
		}
		return p
	}
}
