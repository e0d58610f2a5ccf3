package polynomial_test

import (
	"math/big"
	"math/rand"
	"testing"

	"sandpile/api"
	"sandpile/polynomial"
)

// Tests of P6.2.

// sum follows the definition of the sum of p and c times q.
func sum(p, q api.Poly, c int64) (api.Poly, api.Errno) {
	n := reference(p)
	for _, u := range q {
		n.add(u.X, u.Y, new(big.Int).Mul(numberOf(u.Coef), big.NewInt(c)))
	}
	if e := n.error(); e != api.OK {
		return nil, e
	}
	return n.poly(), api.OK
}

func TestAddSub(t *testing.T) {
	for _, p := range samples() {
		for _, q := range samples() {
			want, error := sum(p, q, 1)
			got, e := polynomial.Add(p, q)
			agrees(t, "Add", got, e, want, error)
			want, error = sum(p, q, -1)
			got, e = polynomial.Sub(p, q)
			agrees(t, "Sub", got, e, want, error)
		}
	}
}

func TestLimitsOfSums(t *testing.T) {
	negative := "-" + longest
	for i, x := range []struct {
		p, q     api.Poly
		add, sub api.Errno
	}{
		{poly(term(longest, 1, 0)), poly(term("1", 1, 0)), api.ErrLarge, api.OK},
		{poly(term(negative, 1, 0)), poly(term("1", 1, 0)), api.OK, api.ErrLarge},
		{poly(term(longest, 1, 0)), poly(term(longest, 0, 1)), api.OK, api.OK},
		{poly(term(longest, 1, 0)), poly(term(longest, 1, 0)), api.ErrLarge, api.OK},
		{nil, poly(term(negative, 1, 0)), api.OK, api.OK},
		{poly(term("1", 9, 9), term("5", 1, 0), term("1", 0, 0)), poly(term("1", 8, 8), term(longest, 1, 0), term("1", 0, 1)), api.ErrLarge, api.OK},
		// Exactly MaxTerms terms, and one more.
		{full("1"), poly(term("1", 3, 255)), api.OK, api.OK},
		{full("1"), poly(term("1", 4, 0)), api.ErrMany, api.ErrMany},
		{poly(term("1", 0, 256)), full("1"), api.ErrMany, api.ErrMany},
		{full("1")[:api.MaxTerms-1], poly(term("1", 4, 0)), api.OK, api.OK},
		{full("1"), poly(term("1", 4, 0), term("1", 3, 0)), api.ErrMany, api.OK},
		{full("1"), poly(term("1", 4, 0), term("-1", 3, 0)), api.OK, api.ErrMany},
		{full("1"), full("1"), api.OK, api.OK},
		{full("1"), block("2", 4, 7, 0, 255), api.ErrMany, api.ErrMany},
		// A coefficient that is too long comes before too many terms.
		{full("1"), poly(term("1", 4, 0), term(longest, 3, 0)), api.ErrLarge, api.ErrMany},
		{full("1"), poly(term("1", 4, 0), term(negative, 0, 0)), api.ErrMany, api.ErrLarge},
		{full(longest), block("1", 0, 4, 0, 200), api.ErrLarge, api.ErrMany},
	} {
		want, error := sum(x.p, x.q, 1)
		got, e := polynomial.Add(x.p, x.q)
		agrees(t, "Add", got, e, want, x.add)
		less, other := sum(x.p, x.q, -1)
		got, e = polynomial.Sub(x.p, x.q)
		agrees(t, "Sub", got, e, less, x.sub)
		if error != x.add || other != x.sub {
			t.Errorf("case %d: the reference has the errors %d and %d", i, error, other)
		}
	}
}

// product follows the definition of the product, step by step.
func product(p, q api.Poly) (api.Poly, api.Errno) {
	for _, u := range p {
		for _, v := range q {
			if u.X+v.X > api.MaxList || u.Y+v.Y > api.MaxList {
				return nil, api.ErrRange
			}
		}
	}
	n := numbers{}
	for _, u := range p {
		for _, v := range q {
			if tooLong(new(big.Int).Mul(numberOf(u.Coef), numberOf(v.Coef))) {
				return nil, api.ErrLarge
			}
		}
		for _, v := range q {
			n.add(u.X+v.X, u.Y+v.Y, new(big.Int).Mul(numberOf(u.Coef), numberOf(v.Coef)))
		}
		if e := n.error(); e != api.OK {
			return nil, e
		}
	}
	return n.poly(), api.OK
}

func TestMul(t *testing.T) {
	l := samples()
	for _, p := range l {
		for _, q := range l {
			if len(p)*len(q) > 3000 {
				continue
			}
			want, error := product(p, q)
			got, e := polynomial.Mul(p, q)
			agrees(t, "Mul", got, e, want, error)
		}
	}
	got, e := polynomial.Mul(poly(term("1", 1, 0), term("1", 0, 1)), poly(term("1", 1, 0), term("-1", 0, 1)))
	agrees(t, "Mul", got, e, poly(term("1", 2, 0), term("-1", 0, 2)), api.OK)
	square := poly(term("1", 1, 0), term("1", 0, 1), term("-1", 0, 0))
	got, e = polynomial.Mul(square, square)
	agrees(t, "Mul", got, e, poly(term("1", 2, 0), term("2", 1, 1), term("-2", 1, 0), term("1", 0, 2), term("-2", 0, 1), term("1", 0, 0)), api.OK)
}

func TestLimitsOfProducts(t *testing.T) {
	half, below := ten(512), ten(511)
	line := block("1", 0, 128, 0, 0)
	for i, x := range []struct {
		p, q api.Poly
		e    api.Errno
	}{
		// Nothing is out of range in a product with 0.
		{nil, poly(term("1", 256, 256)), api.OK}, {poly(term("1", 256, 256)), nil, api.OK}, {nil, nil, api.OK},
		{poly(term("1", 128, 0)), poly(term("1", 128, 256)), api.OK}, {poly(term("1", 129, 0)), poly(term("1", 128, 0)), api.ErrRange}, {poly(term("1", 0, 1)), poly(term("1", 0, 256)), api.ErrRange},
		{line, line, api.OK}, {line, poly(term("1", 129, 0)), api.ErrRange}, {poly(term("1", 129, 0)), line, api.ErrRange},
		{poly(term("1", 256, 0), term("1", 0, 256)), poly(term("1", 0, 1)), api.ErrRange}, {poly(term("1", 256, 0), term("1", 0, 256)), poly(term("1", 1, 0)), api.ErrRange}, {poly(term("1", 0, 1)), poly(term("1", 256, 0), term("1", 0, 256)), api.ErrRange}, {poly(term("1", 2, 0), term("1", 0, 200)), poly(term("1", 1, 1), term("1", 0, 57)), api.ErrRange},
		// The range comes before long coefficients.
		{poly(term(half, 200, 0)), poly(term(half, 100, 0)), api.ErrRange}, {full(longest), block("2", 200, 203, 200, 203), api.ErrRange},
		{poly(term(half, 2, 0)), poly(term(below, 1, 0)), api.OK}, {poly(term(half, 2, 0)), poly(term("-"+half, 1, 0)), api.ErrLarge}, {poly(term("1", 2, 0), term("10", 1, 0)), poly(term("1", 1, 0), term(longest, 0, 0)), api.ErrLarge},
		// The coefficients of products and of sums on the way count, even if they vanish.
		{poly(term("1", 1, 0), term("-10", 0, 0)), poly(term("10", 1, 0), term(longest, 0, 0)), api.ErrLarge},
		{poly(term("1", 2, 0), term("1", 1, 0), term("-1", 0, 0)), poly(term("1", 2, 0), term("1", 1, 0), term(longest, 0, 0)), api.ErrLarge},
		{poly(term("1", 2, 0), term("1", 1, 0), term(longest, 0, 0)), poly(term("1", 2, 0), term("1", 1, 0), term("-1", 0, 0)), api.OK},
		// So do many terms on the way: the product of the first two has MaxTerms terms.
		{poly(term("1", 9, 0), term("-1", 8, 0), term("1", 1, 0), term("-1", 0, 0)), full("1"), api.ErrMany},
		{full("1"), poly(term("1", 9, 0), term("-1", 8, 0), term("1", 1, 0), term("-1", 0, 0)), api.OK},
		{full("3"), poly(term("-1", 250, 1)), api.OK}, {full("1"), poly(term("1", 0, 1), term("1", 0, 0)), api.ErrMany}, {block("1", 0, 15, 0, 15), block("1", 0, 16, 0, 16), api.OK}, {block("1", 0, 15, 0, 15), block("1", 0, 16, 0, 17), api.ErrMany}, {block("1", 0, 16, 0, 16), block("1", 0, 16, 0, 16), api.ErrMany},
		// The error that arises first counts.
		{poly(term("1", 8, 0), term("1", 4, 0), term(longest, 0, 0)), full("10"), api.ErrMany}, {poly(term("1", 8, 0), term(longest, 4, 0), term("1", 0, 0)), full("10"), api.ErrLarge}, {poly(term(longest, 8, 0), term("1", 4, 0)), full("10"), api.ErrLarge},
		{poly(term("1", 1, 0), term("1", 0, 0)), append(poly(term("1", 4, 1)), full(longest)[:api.MaxTerms-1]...), api.ErrLarge},
	} {
		want, error := product(x.p, x.q)
		got, e := polynomial.Mul(x.p, x.q)
		agrees(t, "Mul", got, e, want, x.e)
		if error != x.e {
			t.Errorf("case %d: the reference has the error %d", i, error)
		}
	}
}

// value follows the definition of the value.
func value(p api.Poly, x, y *big.Int) (api.Int, api.Errno) {
	total := new(big.Int)
	for _, u := range p {
		powerX, powerY := new(big.Int).Exp(x, big.NewInt(int64(u.X)), nil), new(big.Int).Exp(y, big.NewInt(int64(u.Y)), nil)
		first := new(big.Int).Mul(numberOf(u.Coef), powerX)
		second := new(big.Int).Mul(first, powerY)
		total.Add(total, second)
		for _, n := range []*big.Int{powerX, powerY, first, second, total} {
			if tooLong(n) {
				return "", api.ErrLarge
			}
		}
	}
	return api.Int(total.String()), api.OK
}

func TestEvaluate(t *testing.T) {
	r := rand.New(rand.NewSource(3))
	points := []api.Int{"0", "1", "-1", "2", "-2", "3", "10", "-17", "1000000007", "-123456789012345678901234567890", longest, "-" + longest}
	for _, p := range samples() {
		for range 25 {
			x, y := points[r.Intn(len(points))], points[r.Intn(len(points))]
			want, error := value(p, numberOf(x), numberOf(y))
			got, e := polynomial.Evaluate(p, x, y)
			agreesNumber(t, "Evaluate", got, e, want, error)
		}
	}
	p := poly(term("1", 2, 0), term("1", 1, 0), term("1", 0, 1))
	for _, x := range []struct{ x, y, want api.Int }{{"2", "1", "7"}, {"1", "1", "3"}, {"0", "0", "0"}, {"-1", "5", "5"}, {"-3", "-4", "2"}} {
		got, e := polynomial.Evaluate(p, x.x, x.y)
		agreesNumber(t, "Evaluate", got, e, x.want, api.OK)
	}
}

func TestLimitsOfValues(t *testing.T) {
	for i, x := range []struct {
		p          api.Poly
		x, y, want api.Int
		e          api.Errno
	}{
		{nil, longest, "-" + longest, "0", api.OK}, {poly(term("-5", 0, 0)), longest, longest, "-5", api.OK},
		// Any number to the power of 0 is 1, 0 too.
		{poly(term("5", 0, 0)), "0", "0", "5", api.OK}, {poly(term("5", 1, 0), term("4", 0, 1), term("3", 0, 0)), "0", "0", "3", api.OK}, {poly(term("5", 3, 0)), "2", "0", "40", api.OK}, {poly(term("5", 0, 3)), "0", "-2", "-40", api.OK},
		{poly(term("1", 256, 256)), "-1", "1", "1", api.OK}, {poly(term("1", 256, 0)), ten(3), "0", ten(768), api.OK}, {poly(term("1", 255, 0)), "-" + ten(4), "0", "-" + ten(1020), api.OK}, {poly(term("1", 256, 0)), ten(4), "0", "", api.ErrLarge}, {poly(term("1", 0, 256)), "0", ten(4), "", api.ErrLarge},
		// Powers that are too long count beside 0 too.
		{poly(term("1", 1, 256)), "0", ten(4), "", api.ErrLarge}, {poly(term("1", 256, 1)), ten(4), "0", "", api.ErrLarge},
		{poly(term(ten(512), 1, 0)), ten(511), "0", ten(1023), api.OK}, {poly(term(ten(512), 1, 0)), ten(512), "1", "", api.ErrLarge}, {poly(term(ten(512), 1, 1)), ten(512), "0", "", api.ErrLarge}, {poly(term(ten(512), 1, 1)), "0", ten(512), "0", api.OK}, {poly(term(ten(512), 0, 1)), "1", "-" + ten(512), "", api.ErrLarge}, {poly(term("2", 1, 1)), ten(512), ten(511), "2" + ten(1023)[1:], api.OK}, {poly(term("2", 1, 1)), ten(512), ten(512), "", api.ErrLarge},
		// Sums on the way count.
		{poly(term("1", 2, 0), term("1", 1, 0), term("-1", 0, 1)), "1", longest, "-" + longest[1:] + "7", api.OK},
		{poly(term("1", 1, 0), term("1", 0, 0)), longest, "0", "", api.ErrLarge}, {poly(term("1", 1, 0), term("-1", 0, 0)), longest, "0", longest[1:] + "8", api.OK}, {poly(term("1", 2, 0), term("1", 0, 1), term("-1", 0, 0)), "1", longest, "", api.ErrLarge}, {poly(term("1", 2, 0), term("-1", 0, 1), term("1", 0, 0)), "1", longest, "-" + longest[1:] + "7", api.OK},
	} {
		got, e := polynomial.Evaluate(x.p, x.x, x.y)
		agreesNumber(t, "Evaluate", got, e, x.want, x.e)
		if want, error := value(x.p, numberOf(x.x), numberOf(x.y)); want != x.want || error != x.e {
			t.Errorf("case %d: the reference has %.100q and the error %d", i, want, error)
		}
	}
	for _, x := range []struct {
		x, y api.Int
		want api.Errno
	}{{"x", "1", api.ErrForm}, {"1", "", api.ErrForm}, {"-0", beyond, api.ErrForm}, {beyond, "x", api.ErrLarge}, {"1", "-" + beyond, api.ErrLarge}, {"01", "1", api.ErrForm}, {longest, "1 ", api.ErrForm}} {
		for _, p := range []api.Poly{nil, poly(term("1", 0, 0)), poly(term("3", 2, 2)), poly(term(longest, 200, 200))} {
			got, e := polynomial.Evaluate(p, x.x, x.y)
			agreesNumber(t, "Evaluate", got, e, "", x.want)
		}
	}
}

func TestWrongOperands(t *testing.T) {
	right := []api.Poly{nil, poly(term("1", 200, 200)), full(longest)}
	for _, operation := range []func(p, q api.Poly) (api.Poly, api.Errno){polynomial.Add, polynomial.Sub, polynomial.Mul} {
		for _, x := range wrong() {
			for _, p := range right {
				got, e := operation(x.p, p)
				agrees(t, "operation", got, e, nil, x.e)
				got, e = operation(p, x.p)
				agrees(t, "operation", got, e, nil, x.e)
			}
			for _, y := range wrong() {
				got, e := operation(x.p, y.p)
				agrees(t, "operation", got, e, nil, x.e)
			}
		}
	}
	for _, x := range wrong() {
		for _, at := range [][2]api.Int{{"1", "1"}, {"x", "1"}, {"1", beyond}} {
			got, e := polynomial.Evaluate(x.p, at[0], at[1])
			agreesNumber(t, "Evaluate", got, e, "", x.e)
		}
	}
}
