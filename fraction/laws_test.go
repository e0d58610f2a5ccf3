package fraction_test

import (
	"math"
	"math/rand"
	"testing"

	"sandpile/api"
	"sandpile/fraction"
	"sandpile/integer"
)

// Tests of P2.3, and of P1 for package fraction.

// threes calls f with triples of fractions for which no result is too long.
func threes(f func(a, b, c api.Frac)) {
	short := []api.Frac{}
	for _, a := range samples() {
		if len(a.Num)+len(a.Den) < 200 {
			short = append(short, a)
		}
	}
	random := rand.New(rand.NewSource(2))
	for range 2000 {
		f(short[random.Intn(len(short))], short[random.Intn(len(short))], short[random.Intn(len(short))])
	}
}

func TestField(t *testing.T) {
	is := must(t)
	add := func(a, b api.Frac) api.Frac { return is(fraction.Add(a, b)) }
	mul := func(a, b api.Frac) api.Frac { return is(fraction.Mul(a, b)) }
	zero, one := frac("0", "1"), frac("1", "1")
	threes(func(a, b, c api.Frac) {
		for _, law := range []struct {
			name     string
			one, two api.Frac
		}{
			{"a + b = b + a", add(a, b), add(b, a)},
			{"(a + b) + c = a + (b + c)", add(add(a, b), c), add(a, add(b, c))},
			{"a + 0 = a", add(a, zero), a},
			{"(a + b) - b = a", is(fraction.Sub(add(a, b), b)), a},
			{"a - b = a + (-b)", is(fraction.Sub(a, b)), add(a, is(fraction.Neg(b)))},
			{"a b = b a", mul(a, b), mul(b, a)},
			{"(a b) c = a (b c)", mul(mul(a, b), c), mul(a, mul(b, c))},
			{"a 1 = a", mul(a, one), a},
			{"a (b + c) = a b + a c", mul(a, add(b, c)), add(mul(a, b), mul(a, c))},
			{"sum", is(fraction.Sum([]api.Frac{a, b, c})), add(add(a, b), c)},
		} {
			if law.one != law.two {
				t.Errorf("%s fails for %v, %v, %v: %v and %v", law.name, a, b, c, law.one, law.two)
			}
		}
		if b != zero && is(fraction.Div(mul(a, b), b)) != a {
			t.Errorf("%v times and divided by %v", a, b)
		}
	})
}

func TestOrderAndFloor(t *testing.T) {
	is := must(t)
	threes(func(a, b, _ api.Frac) {
		difference, _ := integer.Sign(is(fraction.Sub(a, b)).Num)
		order, e := fraction.Compare(a, b)
		if e != api.OK || order != difference || (order == 0) != (a == b) {
			t.Errorf("the order of %v and %v is %d", a, b, order)
		}
		floor, _ := fraction.Floor(a)
		rest := is(fraction.Sub(a, is(fraction.Make(floor, "1"))))
		least, _ := fraction.Compare(rest, frac("0", "1"))
		most, _ := fraction.Compare(rest, frac("1", "1"))
		if least < 0 || most >= 0 {
			t.Errorf("%v is not from %s to less than 1 more", a, floor)
		}
	})
}

// TestOneForm makes equal numbers in several ways.
func TestOneForm(t *testing.T) {
	is := must(t)
	threes(func(a, _, _ api.Frac) {
		for _, factor := range []api.Int{"1", "-1", "6", "-1000000007"} {
			num, _ := integer.Mul(a.Num, factor)
			den, _ := integer.Mul(a.Den, factor)
			if b := is(fraction.Make(num, den)); b != a {
				t.Errorf("%s / %s is %v instead of %v", num, den, b, a)
			}
		}
		text, _ := fraction.Text(a)
		if b := is(fraction.Parse(text)); b != a {
			t.Errorf("%q is read as %v", text, b)
		}
	})
}

func TestExamples(t *testing.T) {
	is := must(t)
	for _, x := range []struct{ got, want api.Frac }{
		{is(fraction.Add(frac("1", "6"), frac("1", "10"))), frac("4", "15")},
		{is(fraction.Sub(frac("1", "6"), frac("1", "10"))), frac("1", "15")},
		{is(fraction.Mul(frac("2", "3"), frac("9", "4"))), frac("3", "2")},
		{is(fraction.Div(frac("2", "3"), frac("-4", "9"))), frac("-3", "2")},
	} {
		if x.got != x.want {
			t.Errorf("%v instead of %v", x.got, x.want)
		}
	}
}

// TestTotal calls every function with all kinds of arguments: a panic fails the test.
func TestTotal(t *testing.T) {
	parts := []api.Int{"", "x", "-0", "0", "1", "-2", longest, "-" + longest, longest + "0"}
	list := []api.Frac{}
	for _, num := range parts {
		for _, den := range parts {
			list = append(list, frac(num, den))
		}
	}
	sound := func(a api.Frac, e api.Errno) {
		t.Helper()
		if e == api.OK && fraction.Check(a) != api.OK || e != api.OK && a != none {
			t.Errorf("%v with the error %d", a, e)
		}
	}
	for _, a := range list {
		sound(fraction.Make(a.Num, a.Den))
		sound(fraction.Neg(a))
		sound(fraction.Sum([]api.Frac{a, a}))
		sound(fraction.Parse(string(a.Num)))
		sound(fraction.Parse(string(a.Num + "/" + a.Den)))
		fraction.Floor(a)
		fraction.Text(a)
		for _, b := range list {
			fraction.Compare(a, b)
			for _, f := range []func(a, b api.Frac) (api.Frac, api.Errno){fraction.Add, fraction.Sub, fraction.Mul, fraction.Div} {
				sound(f(a, b))
			}
		}
	}
	for _, n := range []int{math.MinInt, -1, 0, 1, math.MaxInt} {
		sound(fraction.Of(n, n))
		sound(fraction.Of(1, n))
		sound(fraction.Of(n, -1))
	}
}
