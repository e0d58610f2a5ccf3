package integer_test

import (
	"math/big"
	"strings"
	"testing"

	"sandpile/api"
	"sandpile/integer"
)

// Tests of P1.2.

func TestMulQuoRemGcd(t *testing.T) {
	list := append(samples(), longest, "-"+longest)
	for _, a := range list {
		for _, b := range list {
			x, y := reference(a), reference(b)
			product, e := integer.Mul(a, b)
			same(t, "Mul "+string(a)+" "+string(b), product, e, new(big.Int).Mul(x, y))
			divisor, e := integer.Gcd(a, b)
			same(t, "Gcd "+string(a)+" "+string(b), divisor, e, new(big.Int).GCD(nil, nil, new(big.Int).Abs(x), new(big.Int).Abs(y)))
			if b == "0" {
				continue
			}
			quotient, remainder := floored(x, y)
			got, e := integer.Quo(a, b)
			same(t, "Quo "+string(a)+" "+string(b), got, e, quotient)
			got, e = integer.Rem(a, b)
			same(t, "Rem "+string(a)+" "+string(b), got, e, remainder)
		}
	}
}

// floored returns the quotient, rounded down, and its remainder.
func floored(x, y *big.Int) (*big.Int, *big.Int) {
	quotient, remainder := new(big.Int).QuoRem(x, y, new(big.Int))
	if remainder.Sign()*y.Sign() < 0 {
		quotient.Sub(quotient, big.NewInt(1))
		remainder.Add(remainder, y)
	}
	return quotient, remainder
}

func TestNegativeQuotients(t *testing.T) {
	for _, x := range []struct{ a, b, quotient, remainder api.Int }{
		{"7", "2", "3", "1"}, {"-7", "2", "-4", "1"}, {"7", "-2", "-4", "-1"}, {"-7", "-2", "3", "-1"},
		{"6", "2", "3", "0"}, {"-6", "2", "-3", "0"}, {"6", "-2", "-3", "0"}, {"-6", "-2", "3", "0"},
		{"0", "-5", "0", "0"}, {"1", "5", "0", "1"}, {"-1", "5", "-1", "4"}, {"1", "-5", "-1", "-4"}, {"-1", "-5", "0", "-1"},
		{"-1000000000000000000", "3", "-333333333333333334", "2"}, {"1", "-1000000000000000000", "-1", "-999999999999999999"},
	} {
		quotient, e := integer.Quo(x.a, x.b)
		remainder, f := integer.Rem(x.a, x.b)
		if quotient != x.quotient || remainder != x.remainder || e != api.OK || f != api.OK {
			t.Errorf("%s by %s: %q, %d and %q, %d", x.a, x.b, quotient, e, remainder, f)
		}
	}
}

func TestMulTooLong(t *testing.T) {
	half := api.Int("1" + strings.Repeat("0", api.MaxLong/2))
	less := half[:len(half)-1]
	if a, e := integer.Mul(half, half); a != "" || e != api.ErrLarge {
		t.Errorf("%q, %d instead of ErrLarge", a, e)
	}
	if a, e := integer.Mul("-"+half, less); a != "-"+half+less[1:] || e != api.OK {
		t.Errorf("%q, %d instead of a product of MaxLong digits", a, e)
	}
	if a, e := integer.Mul(longest, "0"); a != "0" || e != api.OK {
		t.Errorf("%q, %d instead of 0", a, e)
	}
}

func TestBezout(t *testing.T) {
	for _, x := range []struct{ a, b, g, x, y api.Int }{
		{"12", "18", "6", "2", "-1"}, {"4", "0", "4", "1", "0"}, {"-4", "0", "4", "-1", "0"}, {"0", "0", "0", "0", "0"},
		{"0", "5", "5", "0", "1"}, {"0", "-5", "5", "0", "-1"}, {"5", "5", "5", "0", "1"}, {"-5", "5", "5", "0", "1"}, {"10", "-5", "5", "0", "-1"},
		{"7", "1", "1", "0", "1"}, {"7", "-1", "1", "0", "-1"}, {"3", "5", "1", "2", "-1"}, {"-3", "5", "1", "3", "2"}, {"10", "-4", "2", "1", "2"},
		{longest, "0", longest, "1", "0"}, {"0", "-" + longest, longest, "0", "-1"}, {"-" + longest, "-1", "1", "0", "-1"}, {"-1", longest, "1", longest[1:] + "8", "1"},
	} {
		g, u, v, e := integer.Bezout(x.a, x.b)
		if g != x.g || u != x.x || v != x.y || e != api.OK {
			t.Errorf("Bezout(%s, %s) = %s, %s, %s, %d", x.a, x.b, g, u, v, e)
		}
	}
}

// TestBezoutLeast finds the least coefficient for small numbers by trying all of them.
func TestBezoutLeast(t *testing.T) {
	for a := -40; a <= 40; a++ {
		for b := -40; b <= 40; b++ {
			if b == 0 {
				continue
			}
			g := int(new(big.Int).GCD(nil, nil, big.NewInt(int64(max(a, -a))), big.NewInt(int64(max(b, -b)))).Int64())
			x := 0
			for (a*x-g)%b != 0 {
				x++
			}
			got, u, v, e := integer.Bezout(integer.Of(a), integer.Of(b))
			if got != integer.Of(g) || u != integer.Of(x) || v != integer.Of((g-a*x)/b) || e != api.OK {
				t.Errorf("Bezout(%d, %d) = %s, %s, %s, %d instead of %d, %d", a, b, got, u, v, e, g, x)
			}
		}
	}
}

func TestBezoutLong(t *testing.T) {
	list := append(samples(), longest, "-"+longest)
	for _, a := range list {
		for _, b := range list {
			g, x, y, e := integer.Bezout(a, b)
			if e != api.OK || b == "0" {
				continue
			}
			p, q := reference(a), reference(b)
			divisor := new(big.Int).GCD(nil, nil, new(big.Int).Abs(p), new(big.Int).Abs(q))
			same(t, "Bezout", g, e, divisor)
			sum := new(big.Int).Mul(p, reference(x))
			sum.Add(sum, new(big.Int).Mul(q, reference(y)))
			period := new(big.Int).Quo(new(big.Int).Abs(q), divisor)
			if sum.Cmp(divisor) != 0 || reference(x).Sign() < 0 || reference(x).Cmp(period) >= 0 {
				t.Errorf("Bezout(%s, %s) = %s, %s, %s", a, b, g, x, y)
			}
		}
	}
}

func TestPow(t *testing.T) {
	for _, a := range samples() {
		for _, n := range []int{0, 1, 2, 3, 5, 17, 64, 100} {
			power, e := integer.Pow(a, n)
			same(t, "Pow "+string(a), power, e, new(big.Int).Exp(reference(a), big.NewInt(int64(n)), nil))
		}
	}
	for _, x := range []struct {
		a    api.Int
		n    int
		want api.Int
		e    api.Errno
	}{
		{"-3", 5, "-243", api.OK}, {"0", 0, "1", api.OK}, {"-1", 0, "1", api.OK}, {longest, 0, "1", api.OK}, {longest, 1, longest, api.OK},
		{"0", api.MaxEvents, "0", api.OK}, {"1", api.MaxEvents, "1", api.OK}, {"-1", api.MaxEvents, "1", api.OK}, {"-1", api.MaxEvents - 1, "-1", api.OK},
		{"2", api.MaxEvents, "", api.ErrLarge}, {"-2", api.MaxEvents - 1, "", api.ErrLarge}, {longest, 2, "", api.ErrLarge}, {longest, api.MaxEvents, "", api.ErrLarge},
		{"10", api.MaxLong - 1, api.Int("1" + strings.Repeat("0", api.MaxLong-1)), api.OK}, {"10", api.MaxLong, "", api.ErrLarge},
		{"5", -1, "", api.ErrRange}, {"0", api.MaxEvents + 1, "", api.ErrRange}, {longest, api.MaxEvents + 1, "", api.ErrRange},
	} {
		if power, e := integer.Pow(x.a, x.n); power != x.want || e != x.e {
			t.Errorf("Pow(%s, %d) = %q, %d", x.a, x.n, power, e)
		}
	}
	// 2 to the power of 3401 is the greatest one of MaxLong digits.
	for n, want := range map[int]api.Errno{3401: api.OK, 3402: api.ErrLarge} {
		power, e := integer.Pow("2", n)
		same(t, "Pow", power, e, new(big.Int).Lsh(big.NewInt(1), uint(n)))
		if e != want {
			t.Errorf("Pow(2, %d) has the error %d", n, e)
		}
	}
}

func TestErrorsOfProducts(t *testing.T) {
	errorsOfTwo(t, "Mul", integer.Mul)
	errorsOfTwo(t, "Quo", integer.Quo)
	errorsOfTwo(t, "Rem", integer.Rem)
	errorsOfTwo(t, "Gcd", integer.Gcd)
	errorsOfTwo(t, "Bezout", func(a, b api.Int) (api.Int, api.Errno) {
		g, x, y, e := integer.Bezout(a, b)
		return g + x + y, e
	})
	for _, a := range wrong() {
		for _, n := range []int{0, 1, -1, api.MaxEvents + 1} {
			if power, e := integer.Pow(a, n); power != "" || e != integer.Check(a) {
				t.Errorf("Pow: %q, %d", power, e)
			}
		}
	}
	for _, a := range []api.Int{"0", "1", "-7", longest} {
		quotient, e := integer.Quo(a, "0")
		remainder, f := integer.Rem(a, "0")
		if quotient != "" || remainder != "" || e != api.ErrZero || f != api.ErrZero {
			t.Errorf("%s by 0: %q, %d and %q, %d", a, quotient, e, remainder, f)
		}
	}
}
