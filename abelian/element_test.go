package abelian_test

import (
	"math/big"
	"math/rand"
	"testing"

	"sandpile/abelian"
	"sandpile/api"
)

// Tests of P5.2.

// residues returns the element whose residues are those of the numbers of a function.
func residues(g []api.Int, number func(i int) *big.Int) []api.Int {
	a := []api.Int{}
	for i, factor := range g {
		a = append(a, integerOf(new(big.Int).Mod(number(i), numberOf(factor))))
	}
	return a
}

func TestAddNeg(t *testing.T) {
	r := rand.New(rand.NewSource(2))
	for _, g := range groups() {
		l := elementsOf(r, g)
		for _, a := range l {
			neg, e := abelian.Neg(g, a)
			same(t, "Neg", neg, e, residues(g, func(i int) *big.Int { return new(big.Int).Neg(numberOf(a[i])) }))
			for _, b := range l {
				sum, e := abelian.Add(g, a, b)
				same(t, "Add", sum, e, residues(g, func(i int) *big.Int { return new(big.Int).Add(numberOf(a[i]), numberOf(b[i])) }))
			}
		}
	}
}

// factors returns numbers by which elements are multiplied.
func factors(r *rand.Rand, g []api.Int) []api.Int {
	l := []api.Int{"0", "1", "-1", "2", "-2", "3", "7", "-12", "1000000007", "-9223372036854775808", longest, "-" + longest, ten(1023), "-" + ten(1022)}
	for _, factor := range g {
		n := numberOf(factor)
		l = append(l, factor, "-"+factor, integerOf(new(big.Int).Sub(n, big.NewInt(1))), integerOf(n.Rsh(n, 1)))
		if len(l) > 20 {
			break
		}
	}
	for range 4 {
		l = append(l, integerOf(new(big.Int).Rand(r, numberOf(longest))))
	}
	return l
}

func TestTimes(t *testing.T) {
	r := rand.New(rand.NewSource(3))
	for _, g := range groups() {
		// Without zero and one, of which TestLongTimes and the laws have enough.
		l := elementsOf(r, g)[2:8]
		for _, k := range factors(r, g) {
			n := numberOf(k)
			for _, a := range l {
				got, e := abelian.Times(g, k, a)
				same(t, "Times", got, e, residues(g, func(i int) *big.Int { return new(big.Int).Mul(n, numberOf(a[i])) }))
			}
		}
	}
}

// TestLongTimes has products of residues that are too long, though no multiple is.
func TestLongTimes(t *testing.T) {
	r := rand.New(rand.NewSource(4))
	for range 150 {
		factor := new(big.Int).Rand(r, numberOf(longest))
		a, k := new(big.Int).Rand(r, factor), new(big.Int).Rand(r, numberOf(longest))
		switch r.Intn(5) {
		case 0:
			// A residue that is less than the root of the factor by any number of digits.
			a.Rsh(a, uint(r.Intn(3000)))
		case 1:
			k.Rsh(k, uint(r.Intn(3000)))
		case 2:
			// The factor is a multiple of the residue, or almost.
			factor.Div(factor, a).Mul(factor, a).Add(factor, big.NewInt(int64(r.Intn(3))))
		}
		if factor.BitLen() < 2 || a.Cmp(factor) >= 0 {
			continue
		}
		g := []api.Int{integerOf(factor)}
		got, e := abelian.Times(g, integerOf(k), []api.Int{integerOf(a)})
		same(t, "Times", got, e, residues(g, func(int) *big.Int { return new(big.Int).Mul(k, a) }))
	}
}

func TestOrderOf(t *testing.T) {
	for _, g := range small() {
		l, _ := abelian.Elements(g)
		for _, a := range l {
			order, e := abelian.OrderOf(g, a)
			sameNumber(t, "OrderOf", order, e, list(leastPeriod(g, a))[0], api.OK)
		}
	}
	r := rand.New(rand.NewSource(5))
	for _, g := range groups() {
		for _, a := range elementsOf(r, g) {
			want := big.NewInt(1)
			for i, factor := range g {
				n := numberOf(factor)
				n.Div(n, new(big.Int).GCD(nil, nil, n, numberOf(a[i])))
				divisor := new(big.Int).GCD(nil, nil, want, n)
				want.Div(want, divisor).Mul(want, n)
			}
			order, e := abelian.OrderOf(g, a)
			sameNumber(t, "OrderOf", order, e, integerOf(want), api.OK)
		}
	}
}

// leastPeriod follows the definition: it counts how often an element is added until the sum is zero.
func leastPeriod(g, a []api.Int) int {
	for k := 1; ; k++ {
		if vanishes(g, a, k) {
			return k
		}
	}
}

// vanishes tells whether k times an element of a small group is zero.
func vanishes(g, a []api.Int, k int) bool {
	for i, factor := range g {
		if int64(k)*numberOf(a[i]).Int64()%numberOf(factor).Int64() != 0 {
			return false
		}
	}
	return true
}

func TestCount(t *testing.T) {
	for _, g := range small() {
		l, _ := abelian.Elements(g)
		for k := 1; k < 70; k++ {
			count := 0
			for _, a := range l {
				if vanishes(g, a, k) {
					count++
				}
			}
			got, e := abelian.Count(g, list(k)[0])
			sameNumber(t, "Count", got, e, list(count)[0], api.OK)
		}
	}
	r := rand.New(rand.NewSource(6))
	for _, g := range groups() {
		for _, k := range factors(r, g) {
			n, product := numberOf(k), big.NewInt(1)
			if n.Sign() < 1 {
				continue
			}
			for _, factor := range g {
				product.Mul(product, new(big.Int).GCD(nil, nil, n, numberOf(factor)))
			}
			want, error := limited(product)
			got, e := abelian.Count(g, k)
			sameNumber(t, "Count", got, e, want, error)
		}
	}
	for _, x := range []struct {
		g       []api.Int
		k, want api.Int
		e       api.Errno
	}{
		{list(2, 6), "2", "4", api.OK}, {nil, "1", "1", api.OK}, {nil, longest, "1", api.OK}, {repeated(api.MaxSide, longest), "1", "1", api.OK}, {repeated(api.MaxSide, longest), "30", "43046721", api.OK}, {repeated(api.MaxSide, longest), longest, "", api.ErrLarge},
		{[]api.Int{ten(512), ten(512)}, ten(511), ten(1022), api.OK}, {[]api.Int{ten(512), ten(512)}, ten(512), "", api.ErrLarge}, {[]api.Int{ten(511), ten(512)}, longest[1:] + "0", "100", api.OK},
		{list(2, 6), "0", "", api.ErrRange}, {list(2, 6), "-1", "", api.ErrRange}, {nil, "0", "", api.ErrRange}, {list(2, 6), "-" + longest, "", api.ErrRange}, {list(2, 6), "x", "", api.ErrForm}, {list(2, 6), "-0", "", api.ErrForm}, {list(2, 6), beyond, "", api.ErrLarge}, {list(2, 6), "-" + beyond, "", api.ErrLarge},
	} {
		got, e := abelian.Count(x.g, x.k)
		sameNumber(t, "Count", got, e, x.want, x.e)
	}
}

func TestWrongElements(t *testing.T) {
	g, right := list(2, 6), list(1, 5)
	for _, x := range wrongElements() {
		a, e := abelian.Add(g, x.a, right)
		fails(t, "Add", a, e, x.e)
		a, e = abelian.Add(g, right, x.a)
		fails(t, "Add", a, e, x.e)
		// All errors of the first element come before those of the second one.
		for _, y := range wrongElements() {
			a, e = abelian.Add(g, x.a, y.a)
			fails(t, "Add", a, e, x.e)
		}
		a, e = abelian.Neg(g, x.a)
		fails(t, "Neg", a, e, x.e)
		order, e := abelian.OrderOf(g, x.a)
		sameNumber(t, "OrderOf", order, e, "", x.e)
		for _, k := range []api.Int{"0", "1", "-5", longest} {
			a, e = abelian.Times(g, k, x.a)
			fails(t, "Times", a, e, x.e)
		}
		// The error of k comes before those of the element.
		a, e = abelian.Times(g, "x", x.a)
		fails(t, "Times", a, e, api.ErrForm)
		a, e = abelian.Times(g, beyond, x.a)
		fails(t, "Times", a, e, api.ErrLarge)
	}
	// The group without factors has one element.
	for _, a := range [][]api.Int{list(0), {"x"}} {
		sum, e := abelian.Add(nil, a, nil)
		fails(t, "Add", sum, e, api.ErrShape)
		sum, e = abelian.Add(nil, nil, a)
		fails(t, "Add", sum, e, api.ErrShape)
		neg, e := abelian.Neg(nil, a)
		fails(t, "Neg", neg, e, api.ErrShape)
		multiple, e := abelian.Times(nil, "2", a)
		fails(t, "Times", multiple, e, api.ErrShape)
	}
}

func TestWrongGroups(t *testing.T) {
	for _, x := range wrong() {
		for _, a := range [][]api.Int{nil, {"x"}, x.g, repeated(len(x.g), "0")} {
			sum, e := abelian.Add(x.g, a, a)
			fails(t, "Add", sum, e, x.e)
			neg, e := abelian.Neg(x.g, a)
			fails(t, "Neg", neg, e, x.e)
			order, e := abelian.OrderOf(x.g, a)
			sameNumber(t, "OrderOf", order, e, "", x.e)
			for _, k := range []api.Int{"0", "1", "x", "", beyond} {
				multiple, e := abelian.Times(x.g, k, a)
				fails(t, "Times", multiple, e, x.e)
				count, e := abelian.Count(x.g, k)
				sameNumber(t, "Count", count, e, "", x.e)
			}
		}
	}
}
