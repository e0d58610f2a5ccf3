package abelian_test

import (
	"math/big"
	"math/rand"
	"slices"
	"testing"

	"sandpile/abelian"
	"sandpile/api"
)

// Tests of P5.1.

func TestCheck(t *testing.T) {
	for _, g := range append(groups(), []api.Int{}, list(2), list(2, 2), list(2, 4), list(3, 6, 6, 12)) {
		if e := abelian.Check(g); e != api.OK {
			t.Errorf("Check(%v) = %d", g, e)
		}
	}
	for _, x := range wrong() {
		if e := abelian.Check(x.g); e != x.e {
			t.Errorf("Check(%v) = %d instead of %d", x.g, e, x.e)
		}
	}
}

func TestOf(t *testing.T) {
	for _, x := range []struct{ d, g []api.Int }{
		{nil, nil}, {list(1), nil}, {list(1, 1, 1), nil}, {repeated(api.MaxSide, "1"), nil}, {list(2), list(2)}, {list(1, 1, 2, 6), list(2, 6)}, {list(2, 6), list(2, 6)}, {list(1, 3, 3), list(3, 3)}, {list(1, 10, 110), list(10, 110)},
		{append(repeated(15, "1"), longest), []api.Int{longest}}, {repeated(api.MaxSide, "2"), repeated(api.MaxSide, "2")}, {[]api.Int{"1", "9", longest}, []api.Int{"9", longest}},
	} {
		g, e := abelian.Of(x.d)
		same(t, "Of", g, e, x.g)
	}
	for _, g := range groups() {
		got, e := abelian.Of(g)
		same(t, "Of", got, e, g)
	}
	for _, x := range []struct {
		d []api.Int
		e api.Errno
	}{
		{repeated(api.MaxSide+1, "1"), api.ErrMany}, {repeated(api.MaxSide+1, "x"), api.ErrMany}, {repeated(api.MaxSide+1, "0"), api.ErrMany},
		{[]api.Int{""}, api.ErrForm}, {[]api.Int{"1", "-0"}, api.ErrForm}, {[]api.Int{"01"}, api.ErrForm}, {[]api.Int{beyond}, api.ErrLarge}, {[]api.Int{"-" + beyond}, api.ErrLarge},
		{list(-1), api.ErrRange}, {list(1, -2), api.ErrRange}, {[]api.Int{"-" + longest}, api.ErrRange},
		{list(0), api.ErrZero}, {list(1, 0), api.ErrZero}, {list(2, 6, 0), api.ErrZero}, {list(0, 0), api.ErrZero},
		{list(2, 1), api.ErrOrder}, {list(2, 3), api.ErrOrder}, {list(1, 6, 2), api.ErrOrder}, {list(1, 2, 4, 6), api.ErrOrder},
		// Zero and the range come before the order, and the first element with an error counts.
		{list(3, -2), api.ErrRange}, {list(3, 2, 0), api.ErrOrder}, {list(0, -1), api.ErrZero}, {list(-1, 0), api.ErrRange}, {[]api.Int{"0", "x"}, api.ErrZero}, {[]api.Int{"x", "0"}, api.ErrForm}, {[]api.Int{"2", "3", beyond}, api.ErrOrder}, {[]api.Int{beyond, "x"}, api.ErrLarge}, {append(repeated(15, "1"), "0"), api.ErrZero},
	} {
		g, e := abelian.Of(x.d)
		fails(t, "Of", g, e, x.e)
	}
}

func TestOrderExponent(t *testing.T) {
	for _, g := range groups() {
		product, last := big.NewInt(1), api.Int("1")
		for _, factor := range g {
			product.Mul(product, numberOf(factor))
			last = factor
		}
		order, e := abelian.Order(g)
		want, error := limited(product)
		sameNumber(t, "Order", order, e, want, error)
		exponent, e := abelian.Exponent(g)
		sameNumber(t, "Exponent", exponent, e, last, api.OK)
	}
	for _, x := range wrong() {
		order, e := abelian.Order(x.g)
		sameNumber(t, "Order", order, e, "", x.e)
		exponent, e := abelian.Exponent(x.g)
		sameNumber(t, "Exponent", exponent, e, "", x.e)
	}
}

// TestLongOrder has orders of exactly MaxLong digits, and longer ones.
func TestLongOrder(t *testing.T) {
	for _, x := range []struct {
		g    []api.Int
		want api.Int
		e    api.Errno
	}{
		{[]api.Int{longest}, longest, api.OK},
		{[]api.Int{ten(511), ten(512)}, ten(1023), api.OK},
		{[]api.Int{ten(512), ten(512)}, "", api.ErrLarge},
		{[]api.Int{"3", longest}, "", api.ErrLarge},
		{repeated(api.MaxSide, ten(63)), ten(1008), api.OK},
		{repeated(api.MaxSide, ten(64)), "", api.ErrLarge},
		{repeated(api.MaxSide, longest), "", api.ErrLarge},
	} {
		order, e := abelian.Order(x.g)
		sameNumber(t, "Order", order, e, x.want, x.e)
	}
}

func TestElement(t *testing.T) {
	r := rand.New(rand.NewSource(1))
	for _, g := range groups() {
		for _, l := range integersFor(r, g) {
			want := []api.Int{}
			for i, factor := range g {
				// The modulus of Euclid is from 0 on.
				want = append(want, integerOf(new(big.Int).Mod(numberOf(l[i]), numberOf(factor))))
			}
			a, e := abelian.Element(g, l)
			same(t, "Element", a, e, want)
		}
		for _, a := range elementsOf(r, g) {
			got, e := abelian.Element(g, a)
			same(t, "Element", got, e, a)
		}
	}
	for _, x := range []struct{ l, a []api.Int }{
		{list(2, 6), list(0, 0)}, {list(-1, -1), list(1, 5)}, {list(-2, -6), list(0, 0)}, {list(3, 13), list(1, 1)}, {list(-3, -13), list(1, 5)}, {[]api.Int{longest, "-" + longest}, list(1, 3)},
	} {
		a, e := abelian.Element(list(2, 6), x.l)
		same(t, "Element", a, e, x.a)
	}
	for _, x := range wrongElements() {
		// A residue may have any size here.
		if x.e == api.ErrRange {
			continue
		}
		a, e := abelian.Element(list(2, 6), x.a)
		fails(t, "Element", a, e, x.e)
	}
	for _, x := range []struct {
		l []api.Int
		e api.Errno
	}{{[]api.Int{"-7", "x"}, api.ErrForm}, {[]api.Int{"100", beyond}, api.ErrLarge}, {list(7, 7, 7), api.ErrShape}} {
		a, e := abelian.Element(list(2, 6), x.l)
		fails(t, "Element", a, e, x.e)
	}
	for _, x := range wrong() {
		for _, l := range [][]api.Int{nil, x.g, {"x"}} {
			a, e := abelian.Element(x.g, l)
			fails(t, "Element", a, e, x.e)
		}
	}
	a, e := abelian.Element(nil, list(0))
	fails(t, "Element", a, e, api.ErrShape)
}

// integersFor returns lists of any integers for the factors of a group.
func integersFor(r *rand.Rand, g []api.Int) [][]api.Int {
	l := [][]api.Int{}
	for range 8 {
		integers := []api.Int{}
		for range g {
			n := new(big.Int).Rand(r, new(big.Int).Lsh(big.NewInt(1), uint(r.Intn(3390))))
			if r.Intn(2) == 0 {
				n.Neg(n)
			}
			integers = append(integers, integerOf(n))
		}
		l = append(l, integers)
	}
	return l
}

func TestElements(t *testing.T) {
	for _, g := range append(small(), list(16384), list(128, 128), list(2, 8192), repeated(14, "2"), repeated(7, "4"), list(25, 25, 25), list(16383), list(3, 5460)) {
		l, e := abelian.Elements(g)
		want := [][]api.Int{{}}
		for _, factor := range g {
			want = extended(want, int(numberOf(factor).Int64()))
		}
		if e != api.OK || !slices.EqualFunc(l, want, slices.Equal) {
			t.Errorf("Elements(%v): %d elements, %d instead of %d", g, len(l), e, len(want))
		}
	}
	for _, g := range [][]api.Int{
		list(16385), list(128, 256), list(2, 8194), repeated(15, "2"), repeated(api.MaxSide, "2"), repeated(9, "3"), list(1 << 62), []api.Int{"9223372036854775808"}, []api.Int{"18446744073709551616"}, list(1<<32, 1<<32), {longest}, {ten(512), ten(512)}, repeated(api.MaxSide, longest),
	} {
		if l, e := abelian.Elements(g); len(l) > 0 || e != api.ErrLimit {
			t.Errorf("Elements(%v): %d elements, %d instead of ErrLimit", g, len(l), e)
		}
	}
	for _, x := range wrong() {
		if l, e := abelian.Elements(x.g); len(l) > 0 || e != x.e {
			t.Errorf("Elements(%v): %d elements, %d instead of %d", x.g, len(l), e, x.e)
		}
	}
}

// extended returns each list with each number below n behind it.
func extended(lists [][]api.Int, n int) [][]api.Int {
	longer := [][]api.Int{}
	for _, l := range lists {
		for i := range n {
			longer = append(longer, append(slices.Clone(l), list(i)...))
		}
	}
	return longer
}
