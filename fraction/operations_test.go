package fraction_test

import (
	"math/big"
	"slices"
	"testing"

	"sandpile/api"
	"sandpile/fraction"
)

// Tests of P2.2.

// tooLong tells whether one of the integers has more than MaxLong digits.
func tooLong(list ...*big.Int) bool {
	for _, n := range list {
		if len(new(big.Int).Abs(n).String()) > api.MaxLong {
			return true
		}
	}
	return false
}

func product(a, b *big.Int) *big.Int { return new(big.Int).Mul(a, b) }

// agrees reports a result that is not that of the definition: num / den, if no integer of the list is too long.
func agrees(t *testing.T, what string, got api.Frac, e api.Errno, num, den *big.Int, on ...*big.Int) {
	t.Helper()
	if tooLong(num, den) || tooLong(on...) {
		fails(t, what, got, e, api.ErrLarge)
		return
	}
	same(t, what, got, e, of(new(big.Rat).SetFrac(num, den)))
}

func TestOperations(t *testing.T) {
	for _, a := range samples() {
		for _, b := range samples() {
			x, y := reference(a), reference(b)
			first, second := product(x.Num(), y.Denom()), product(y.Num(), x.Denom())
			den := product(x.Denom(), y.Denom())
			got, e := fraction.Add(a, b)
			agrees(t, "Add", got, e, new(big.Int).Add(first, second), den, first, second)
			got, e = fraction.Sub(a, b)
			agrees(t, "Sub", got, e, new(big.Int).Sub(first, second), den, first, second)
			got, e = fraction.Mul(a, b)
			agrees(t, "Mul", got, e, product(x.Num(), y.Num()), den)
			got, e = fraction.Div(a, b)
			if y.Sign() == 0 {
				fails(t, "Div", got, e, api.ErrZero)
			} else {
				agrees(t, "Div", got, e, first, second)
			}
			order, e := fraction.Compare(a, b)
			if tooLong(first, second) {
				if order != 0 || e != api.ErrLarge {
					t.Errorf("Compare(%v, %v) = %d, %d instead of ErrLarge", a, b, order, e)
				}
			} else if order != x.Cmp(y) || e != api.OK {
				t.Errorf("Compare(%v, %v) = %d, %d", a, b, order, e)
			}
		}
	}
}

// TestLarge has products that are too long, although some of the results in lowest terms would not be.
func TestLarge(t *testing.T) {
	for _, x := range []struct {
		a, b                      api.Frac
		add, sub, mul, div, order api.Errno
	}{
		{frac(long, "1"), frac(long, "1"), api.OK, api.OK, api.ErrLarge, api.OK, api.OK},
		{frac("1", long), frac("1", long), api.ErrLarge, api.ErrLarge, api.ErrLarge, api.OK, api.OK},
		{frac(long, "1"), frac("1", long), api.ErrLarge, api.ErrLarge, api.OK, api.ErrLarge, api.ErrLarge},
		{frac("1", long), frac(long, "1"), api.ErrLarge, api.ErrLarge, api.OK, api.ErrLarge, api.ErrLarge},
		{frac("0", "1"), frac("1", longest), api.OK, api.OK, api.OK, api.OK, api.OK},
		{frac(longest, "1"), frac("0", "1"), api.OK, api.OK, api.OK, api.ErrZero, api.OK},
		{frac(longest, "1"), frac("1", "1"), api.ErrLarge, api.OK, api.OK, api.OK, api.OK},
		{frac(longest, "1"), frac("-1", "1"), api.OK, api.ErrLarge, api.OK, api.OK, api.OK},
		{frac("1", longest), frac("1", "2"), api.ErrLarge, api.ErrLarge, api.ErrLarge, api.OK, api.OK},
		{frac(longest, "10"), frac("1", "2"), api.ErrLarge, api.ErrLarge, api.OK, api.ErrLarge, api.ErrLarge},
	} {
		for _, y := range []struct {
			name string
			f    func(a, b api.Frac) (api.Frac, api.Errno)
			want api.Errno
		}{{"Add", fraction.Add, x.add}, {"Sub", fraction.Sub, x.sub}, {"Mul", fraction.Mul, x.mul}, {"Div", fraction.Div, x.div}} {
			got, e := y.f(x.a, x.b)
			if e != y.want || (e == api.OK) != (got != none) {
				t.Errorf("%s: %v, %d instead of %d", y.name, got, e, y.want)
			}
		}
		if order, e := fraction.Compare(x.a, x.b); e != x.order || e != api.OK && order != 0 {
			t.Errorf("Compare: %d, %d instead of %d", order, e, x.order)
		}
	}
}

func TestErrorsOfOperations(t *testing.T) {
	for _, f := range []func(a, b api.Frac) (api.Frac, api.Errno){fraction.Add, fraction.Sub, fraction.Mul, fraction.Div, func(a, b api.Frac) (api.Frac, api.Errno) {
		order, e := fraction.Compare(a, b)
		if order != 0 {
			t.Error("Compare has an order beside an error")
		}
		return none, e
	}} {
		for a, want := range wrong() {
			for _, x := range []struct {
				a, b api.Frac
				want api.Errno
			}{
				{a, frac("1", "2"), want}, {frac("1", "2"), a, want}, {a, frac("0", "1"), want}, {frac(longest, "1"), a, want}, {a, frac("2", "2"), want}, {a, frac(longest+"0", "1"), want}, {none, a, api.ErrForm}, {frac(longest+"0", "1"), a, api.ErrLarge},
			} {
				got, e := f(x.a, x.b)
				fails(t, "operation", got, e, x.want)
			}
		}
	}
}

func TestSum(t *testing.T) {
	half, third, sixth := frac("1", "2"), frac("1", "3"), frac("1", "6")
	for _, x := range []struct {
		list []api.Frac
		want api.Frac
		e    api.Errno
	}{
		{nil, frac("0", "1"), api.OK},
		{[]api.Frac{}, frac("0", "1"), api.OK},
		{[]api.Frac{half}, half, api.OK},
		{[]api.Frac{half, third, sixth}, frac("1", "1"), api.OK},
		{[]api.Frac{frac("1", longest)}, frac("1", longest), api.OK},
		{slices.Repeat([]api.Frac{half}, api.MaxEvents), frac("2048", "1"), api.OK},
		{slices.Repeat([]api.Frac{half}, api.MaxEvents+1), none, api.ErrMany},
		{make([]api.Frac, api.MaxEvents+1), none, api.ErrMany},
		{make([]api.Frac, api.MaxEvents), none, api.ErrForm},
		{[]api.Frac{half, none, frac(longest+"0", "1")}, none, api.ErrForm},
		{[]api.Frac{half, frac(longest+"0", "1"), none}, none, api.ErrLarge},
		// Elements are added one after another: what is too long on the way is too long.
		{[]api.Frac{frac(longest, "1"), frac("1", "1"), frac("-1", "1")}, none, api.ErrLarge},
		{[]api.Frac{frac(longest, "1"), frac("-1", "1"), frac("1", "1")}, frac(longest, "1"), api.OK},
		{[]api.Frac{frac("1", long), frac("-1", long)}, none, api.ErrLarge},
		// Errors of elements come before a sum that is too long.
		{[]api.Frac{frac(longest, "1"), frac("1", "1"), frac("1", "0")}, none, api.ErrForm},
	} {
		given := slices.Clone(x.list)
		if sum, e := fraction.Sum(x.list); sum != x.want || e != x.e {
			t.Errorf("Sum of %d elements: %v, %d instead of %v, %d", len(x.list), sum, e, x.want, x.e)
		}
		if !slices.Equal(given, x.list) {
			t.Error("Sum changes its list")
		}
	}
}
