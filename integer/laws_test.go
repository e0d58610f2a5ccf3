package integer_test

import (
	"math"
	"math/big"
	"math/rand"
	"strings"
	"testing"

	"sandpile/api"
	"sandpile/integer"
)

// Tests of P1.3, and of P1 for package integer.

// threes calls f with triples of integers of at most about 200 digits.
func threes(f func(a, b, c api.Int)) {
	list := samples()
	random := rand.New(rand.NewSource(2))
	for range 3000 {
		f(list[random.Intn(len(list))], list[random.Intn(len(list))], list[random.Intn(len(list))])
	}
}

func TestRing(t *testing.T) {
	is := must(t)
	add := func(a, b api.Int) api.Int { return is(integer.Add(a, b)) }
	mul := func(a, b api.Int) api.Int { return is(integer.Mul(a, b)) }
	neg := func(a api.Int) api.Int { return is(integer.Neg(a)) }
	threes(func(a, b, c api.Int) {
		for _, law := range []struct {
			name     string
			one, two api.Int
		}{
			{"a + b = b + a", add(a, b), add(b, a)},
			{"(a + b) + c = a + (b + c)", add(add(a, b), c), add(a, add(b, c))},
			{"a + 0 = a", add(a, "0"), a},
			{"a + (-a) = 0", add(a, neg(a)), "0"},
			{"a - b = a + (-b)", is(integer.Sub(a, b)), add(a, neg(b))},
			{"a b = b a", mul(a, b), mul(b, a)},
			{"(a b) c = a (b c)", mul(mul(a, b), c), mul(a, mul(b, c))},
			{"a 1 = a", mul(a, "1"), a},
			{"a (b + c) = a b + a c", mul(a, add(b, c)), add(mul(a, b), mul(a, c))},
			{"sum", is(integer.Sum([]api.Int{a, b, c})), add(add(a, b), c)},
		} {
			if law.one != law.two {
				t.Errorf("%s fails for %s, %s, %s: %s and %s", law.name, a, b, c, law.one, law.two)
			}
		}
	})
}

func TestOrder(t *testing.T) {
	is := must(t)
	compare := func(a, b api.Int) int {
		order, e := integer.Compare(a, b)
		if e != api.OK {
			t.Fatalf("Compare(%s, %s) has the error %d", a, b, e)
		}
		return order
	}
	threes(func(a, b, c api.Int) {
		sign, _ := integer.Sign(c)
		difference, _ := integer.Sign(is(integer.Sub(a, b)))
		order := compare(a, b)
		if order != -compare(b, a) || order != difference || (order == 0) != (a == b) {
			t.Errorf("the order of %s and %s is %d", a, b, order)
		}
		if compare(is(integer.Add(a, c)), is(integer.Add(b, c))) != order {
			t.Errorf("adding %s changes the order of %s and %s", c, a, b)
		}
		if compare(is(integer.Mul(a, c)), is(integer.Mul(b, c))) != order*sign {
			t.Errorf("%s times %s and %s is not in order", c, a, b)
		}
	})
}

func TestDivision(t *testing.T) {
	is := must(t)
	threes(func(a, b, c api.Int) {
		if b == "0" {
			return
		}
		quotient, remainder := is(integer.Quo(a, b)), is(integer.Rem(a, b))
		if is(integer.Add(is(integer.Mul(quotient, b)), remainder)) != a {
			t.Errorf("%s is not %s times %s and %s", a, quotient, b, remainder)
		}
		near, _ := integer.Compare(is(integer.Abs(remainder)), is(integer.Abs(b)))
		sign, _ := integer.Sign(remainder)
		other, _ := integer.Sign(b)
		if near >= 0 || sign != 0 && sign != other {
			t.Errorf("the remainder of %s by %s is %s", a, b, remainder)
		}
		// A product divided by a factor is the other factor.
		if is(integer.Quo(is(integer.Mul(b, c)), b)) != c || is(integer.Rem(is(integer.Mul(b, c)), b)) != "0" {
			t.Errorf("%s times %s divided by %s is not %s", b, c, b, c)
		}
	})
}

func TestCommonDivisor(t *testing.T) {
	is := must(t)
	threes(func(a, b, c api.Int) {
		a, b = is(integer.Mul(a, c)), is(integer.Mul(b, c))
		g, x, y, e := integer.Bezout(a, b)
		if e != api.OK || g != is(integer.Gcd(a, b)) || g != is(integer.Gcd(b, a)) {
			t.Errorf("Bezout(%s, %s) has the divisor %s", a, b, g)
		}
		if is(integer.Add(is(integer.Mul(a, x)), is(integer.Mul(b, y)))) != g {
			t.Errorf("%s is not %s %s + %s %s", g, a, x, b, y)
		}
		if g != "0" && (is(integer.Rem(a, g)) != "0" || is(integer.Rem(b, g)) != "0" || c != "0" && is(integer.Rem(g, c)) != "0") {
			t.Errorf("%s is not the greatest common divisor of %s and %s", g, a, b)
		}
	})
}

func TestPowersAddExponents(t *testing.T) {
	is := must(t)
	for _, a := range []api.Int{"0", "1", "-1", "2", "-3", "10", "999999999", "-1000000000000"} {
		for m := range 12 {
			for n := range 12 {
				if is(integer.Pow(a, m+n)) != is(integer.Mul(is(integer.Pow(a, m)), is(integer.Pow(a, n)))) {
					t.Errorf("%s to the powers of %d and %d", a, m, n)
				}
			}
		}
	}
}

func TestSmallNumbers(t *testing.T) {
	is := must(t)
	for a := -30; a <= 30; a++ {
		for b := -30; b <= 30; b++ {
			x, y := integer.Of(a), integer.Of(b)
			order, _ := integer.Compare(x, y)
			if is(integer.Add(x, y)) != integer.Of(a+b) || is(integer.Sub(x, y)) != integer.Of(a-b) || is(integer.Mul(x, y)) != integer.Of(a*b) || (order < 0) != (a < b) || (order > 0) != (a > b) {
				t.Errorf("operations on %d and %d", a, b)
			}
			if b == 0 {
				continue
			}
			quotient := int(math.Floor(float64(a) / float64(b)))
			if is(integer.Quo(x, y)) != integer.Of(quotient) || is(integer.Rem(x, y)) != integer.Of(a-b*quotient) {
				t.Errorf("%d divided by %d", a, b)
			}
		}
	}
}

// TestTotal calls every function with all kinds of arguments: a panic fails the test, and a result is either canonical or zero beside an error.
func TestTotal(t *testing.T) {
	list := append(wrong(), "0", "1", "-1", "10", longest, "-"+longest)
	sound := func(e api.Errno, results ...api.Int) {
		t.Helper()
		for _, a := range results {
			if e == api.OK && integer.Check(a) != api.OK || e != api.OK && a != "" {
				t.Errorf("%q with the error %d", a, e)
			}
		}
	}
	one := func(a api.Int, e api.Errno) { t.Helper(); sound(e, a) }
	for _, a := range list {
		one(integer.Neg(a))
		one(integer.Abs(a))
		one(integer.Sum([]api.Int{a}))
		integer.Small(a)
		integer.Sign(a)
		for _, n := range []int{math.MinInt, -1, 0, 1, 2, 3, api.MaxEvents, api.MaxEvents + 1, math.MaxInt} {
			one(integer.Pow(a, n))
		}
		for _, b := range list {
			integer.Compare(a, b)
			for _, f := range []func(a, b api.Int) (api.Int, api.Errno){integer.Add, integer.Sub, integer.Mul, integer.Quo, integer.Rem, integer.Gcd} {
				one(f(a, b))
			}
			g, x, y, e := integer.Bezout(a, b)
			sound(e, g, x, y)
		}
	}
}

// TestGuesses divides numbers for which the words of a quotient are hard to guess: all digits of the number and the divisor are 0 or 9, but for a few.
func TestGuesses(t *testing.T) {
	random := rand.New(rand.NewSource(3))
	hard := func(count int) api.Int {
		digits := []string{"5", "499999999", "500000000", "999999999", "1"}[random.Intn(5)]
		for range count {
			digits += []string{strings.Repeat("0", 9), strings.Repeat("9", 9), "000000001", "999999998", "500000000", "499999999"}[random.Intn(6)]
		}
		return api.Int(digits)
	}
	for range 30000 {
		a, b := hard(1+random.Intn(6)), hard(1+random.Intn(3))
		quotient, remainder := new(big.Int).QuoRem(reference(a), reference(b), new(big.Int))
		got, e := integer.Quo(a, b)
		same(t, "Quo "+string(a)+" "+string(b), got, e, quotient)
		got, e = integer.Rem(a, b)
		same(t, "Rem "+string(a)+" "+string(b), got, e, remainder)
	}
}
