package polynomial_test

import (
	"math"
	"slices"
	"testing"

	"sandpile/api"
	"sandpile/polynomial"
)

// Tests of P6.1, but for texts.

// exponents lists pairs of exponents that are not permitted.
func exponents() [][2]int {
	return [][2]int{{-1, 0}, {0, -1}, {api.MaxList + 1, 0}, {0, api.MaxList + 1}, {math.MaxInt, 0}, {0, math.MaxInt}, {math.MinInt, math.MinInt}, {-1, 1}, {257, -257}}
}

func TestCheck(t *testing.T) {
	for _, p := range append(samples(), api.Poly{}, full(longest)) {
		if e := polynomial.Check(p); e != api.OK {
			t.Errorf("Check(%v) = %d", p, e)
		}
	}
	for _, x := range wrong() {
		if e := polynomial.Check(x.p); e != x.e {
			t.Errorf("Check(%v) = %d instead of %d", x.p, e, x.e)
		}
	}
}

func TestMonomial(t *testing.T) {
	for _, x := range []api.Term{term("1", 0, 0), term("-1", 0, 1), term("12", 1, 0), term("-7", 3, 9), term("1", api.MaxList, api.MaxList), term(longest, api.MaxList, 0), term("-"+longest, 0, api.MaxList)} {
		p, e := polynomial.Monomial(x.X, x.Y, x.Coef)
		agrees(t, "Monomial", p, e, poly(x), api.OK)
		p, e = polynomial.Monomial(x.X, x.Y, "0")
		agrees(t, "Monomial", p, e, nil, api.OK)
	}
	for c, want := range map[api.Int]api.Errno{"": api.ErrForm, "x": api.ErrForm, "-0": api.ErrForm, "00": api.ErrForm, "+1": api.ErrForm, beyond: api.ErrLarge, "-" + beyond: api.ErrLarge} {
		p, e := polynomial.Monomial(1, 2, c)
		agrees(t, "Monomial", p, e, nil, want)
	}
	for _, x := range exponents() {
		for _, c := range []api.Int{"1", "0", "x", beyond} {
			p, e := polynomial.Monomial(x[0], x[1], c)
			agrees(t, "Monomial", p, e, nil, api.ErrRange)
		}
	}
}

func TestShift(t *testing.T) {
	for _, p := range samples() {
		for _, by := range [][2]int{{0, 0}, {1, 0}, {0, 1}, {3, 5}, {api.MaxList, 0}, {0, api.MaxList}, {api.MaxList, api.MaxList}, {247, 248}, {225, 1}} {
			want, error := poly(), api.OK
			for _, u := range p {
				want = append(want, term(u.Coef, u.X+by[0], u.Y+by[1]))
				if u.X+by[0] > api.MaxList || u.Y+by[1] > api.MaxList {
					error = api.ErrRange
				}
			}
			if error != api.OK {
				want = nil
			}
			got, e := polynomial.Shift(p, by[0], by[1])
			agrees(t, "Shift", got, e, want, error)
		}
		for _, x := range exponents() {
			got, e := polynomial.Shift(p, x[0], x[1])
			agrees(t, "Shift", got, e, nil, api.ErrRange)
		}
	}
	p := poly(term("2", 6, 1), term("-1", 0, 16))
	got, e := polynomial.Shift(p, 250, 240)
	agrees(t, "Shift", got, e, poly(term("2", 256, 241), term("-1", 250, 256)), api.OK)
	for _, by := range [][2]int{{251, 240}, {250, 241}, {256, 0}, {0, 256}} {
		got, e = polynomial.Shift(p, by[0], by[1])
		agrees(t, "Shift", got, e, nil, api.ErrRange)
	}
	for _, x := range wrong() {
		for _, by := range append(exponents(), [2]int{0, 0}, [2]int{1, 256}) {
			got, e := polynomial.Shift(x.p, by[0], by[1])
			agrees(t, "Shift", got, e, nil, x.e)
		}
	}
}

func TestSwap(t *testing.T) {
	for _, p := range samples() {
		swapped := numbers{}
		for _, u := range p {
			swapped.add(u.Y, u.X, numberOf(u.Coef))
		}
		got, e := polynomial.Swap(p)
		agrees(t, "Swap", got, e, swapped.poly(), api.OK)
	}
	for _, x := range wrong() {
		got, e := polynomial.Swap(x.p)
		agrees(t, "Swap", got, e, nil, x.e)
	}
}

func TestCoefficient(t *testing.T) {
	for _, p := range samples() {
		n := reference(p)
		for x := range 12 {
			for y := range 12 {
				want := api.Int("0")
				if c := n[[2]int{x, y}]; c != nil {
					want = api.Int(c.String())
				}
				c, e := polynomial.Coefficient(p, x, y)
				agreesNumber(t, "Coefficient", c, e, want, api.OK)
			}
		}
		for _, u := range p {
			c, e := polynomial.Coefficient(p, u.X, u.Y)
			agreesNumber(t, "Coefficient", c, e, u.Coef, api.OK)
		}
		for _, x := range exponents() {
			c, e := polynomial.Coefficient(p, x[0], x[1])
			agreesNumber(t, "Coefficient", c, e, "", api.ErrRange)
		}
	}
	c, e := polynomial.Coefficient(poly(term("5", 1, 2)), api.MaxList, api.MaxList)
	agreesNumber(t, "Coefficient", c, e, "0", api.OK)
	for _, x := range wrong() {
		for _, at := range append(exponents(), [2]int{0, 0}, [2]int{1, 256}) {
			c, e := polynomial.Coefficient(x.p, at[0], at[1])
			agreesNumber(t, "Coefficient", c, e, "", x.e)
		}
	}
}

func TestSame(t *testing.T) {
	l := append(samples()[:22], api.Poly{})
	for _, x := range wrong() {
		l = append(l, x.p)
	}
	for i, p := range l {
		for k, q := range l {
			if got := polynomial.Same(p, q); got != slices.Equal(p, q) || i == k && !got {
				t.Errorf("Same(%v, %v) = %t", p, q, got)
			}
		}
		if !polynomial.Same(p, slices.Clone(p)) {
			t.Errorf("%v is not the same as its copy", p)
		}
	}
	for _, x := range []struct {
		p, q api.Poly
		want bool
	}{
		{nil, api.Poly{}, true}, {nil, poly(term("0", 0, 0)), false}, {poly(term("1", 1, 0)), poly(term("1", 0, 1)), false}, {poly(term("1", 1, 0)), poly(term("-1", 1, 0)), false}, {poly(term("1", 1, 0)), poly(term("01", 1, 0)), false}, {poly(term("1", 1, 0), term("1", 0, 0)), poly(term("1", 1, 0)), false},
		{poly(term("x", -1, 300)), poly(term("x", -1, 300)), true}, {poly(term("1", 0, 0), term("1", 1, 0)), poly(term("1", 1, 0), term("1", 0, 0)), false},
	} {
		if polynomial.Same(x.p, x.q) != x.want || polynomial.Same(x.q, x.p) != x.want {
			t.Errorf("Same(%v, %v) is not %t", x.p, x.q, x.want)
		}
	}
}
