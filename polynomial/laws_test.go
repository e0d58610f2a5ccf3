package polynomial_test

import (
	"math"
	"math/rand"
	"slices"
	"testing"

	"sandpile/api"
	"sandpile/integer"
	"sandpile/polynomial"
)

// Tests of P6.3, and of P1 for package polynomial.

func TestRing(t *testing.T) {
	r := rand.New(rand.NewSource(4))
	is := must(t)
	add := func(p, q api.Poly) api.Poly { return is(polynomial.Add(p, q)) }
	sub := func(p, q api.Poly) api.Poly { return is(polynomial.Sub(p, q)) }
	mul := func(p, q api.Poly) api.Poly { return is(polynomial.Mul(p, q)) }
	shift := func(p api.Poly, x, y int) api.Poly { return is(polynomial.Shift(p, x, y)) }
	one := is(polynomial.Monomial(0, 0, "1"))
	for range 300 {
		bound, digits := r.Intn(8)+1, []int{1, 3, 50}[r.Intn(3)]
		p, q, s := random(r, r.Intn(9), bound, digits), random(r, r.Intn(9), bound, digits), random(r, r.Intn(9), bound, digits)
		for i, law := range [][2]api.Poly{
			{add(p, q), add(q, p)},
			{add(add(p, q), s), add(p, add(q, s))},
			{add(p, nil), p},
			{sub(p, p), nil},
			{sub(p, nil), p},
			{sub(add(p, q), q), p},
			{sub(p, q), mul(sub(q, p), is(polynomial.Monomial(0, 0, "-1")))},
			{mul(p, q), mul(q, p)},
			{mul(mul(p, q), s), mul(p, mul(q, s))},
			{mul(p, one), p},
			{mul(p, nil), nil},
			{mul(p, add(q, s)), add(mul(p, q), mul(p, s))},
			{mul(sub(p, q), s), sub(mul(p, s), mul(q, s))},
			{shift(p, 3, 5), mul(p, is(polynomial.Monomial(3, 5, "1")))},
			{shift(shift(p, 1, 2), 3, 4), shift(p, 4, 6)},
		} {
			if !polynomial.Same(law[0], law[1]) {
				t.Errorf("law %d: %v and %v", i, law[0], law[1])
			}
		}
	}
}

func TestValues(t *testing.T) {
	r := rand.New(rand.NewSource(5))
	is := must(t)
	number := func(a api.Int, e api.Errno) api.Int {
		t.Helper()
		if e != api.OK {
			t.Fatalf("%q with the error %d", a, e)
		}
		return a
	}
	points := []api.Int{"0", "1", "-1", "2", "-5", "1000000007", "-98765432109876543210"}
	for range 300 {
		p, q := random(r, r.Intn(9), r.Intn(8)+1, r.Intn(30)+1), random(r, r.Intn(9), r.Intn(8)+1, r.Intn(30)+1)
		x, y := points[r.Intn(len(points))], points[r.Intn(len(points))]
		at := func(p api.Poly, x, y api.Int) api.Int { return number(polynomial.Evaluate(p, x, y)) }
		for i, law := range [][2]api.Int{
			{at(is(polynomial.Add(p, q)), x, y), number(integer.Add(at(p, x, y), at(q, x, y)))},
			{at(is(polynomial.Sub(p, q)), x, y), number(integer.Sub(at(p, x, y), at(q, x, y)))},
			{at(is(polynomial.Mul(p, q)), x, y), number(integer.Mul(at(p, x, y), at(q, x, y)))},
			{at(is(polynomial.Swap(p)), x, y), at(p, y, x)},
			{at(is(polynomial.Shift(p, 2, 1)), x, y), number(integer.Mul(at(p, x, y), number(integer.Mul(number(integer.Pow(x, 2)), y))))},
			{at(p, "0", "0"), number(polynomial.Coefficient(p, 0, 0))},
		} {
			if law[0] != law[1] {
				t.Errorf("law %d for %v and %v at %s and %s: %s and %s", i, p, q, x, y, law[0], law[1])
			}
		}
	}
}

func TestBackAgain(t *testing.T) {
	is := must(t)
	for _, p := range samples() {
		if !polynomial.Same(is(polynomial.Swap(is(polynomial.Swap(p)))), p) {
			t.Errorf("%v is another polynomial when it is swapped twice", p)
		}
		if text, e := polynomial.Text(p); e == api.OK && !polynomial.Same(is(polynomial.Parse(text)), p) {
			t.Errorf("%q is read as another polynomial", text)
		}
		// The terms are those of monomials; not too many of them, because each sum takes some time.
		if len(p) > 100 {
			continue
		}
		total := api.Poly{}
		for _, u := range p {
			total = is(polynomial.Add(total, is(polynomial.Monomial(u.X, u.Y, u.Coef))))
		}
		if !polynomial.Same(total, p) {
			t.Errorf("%v is not the sum of its terms", p)
		}
	}
}

// TestTotal calls every function with all kinds of arguments: a panic fails the test, and a result is either right or zero beside an error.
func TestTotal(t *testing.T) {
	r := rand.New(rand.NewSource(6))
	list := append(samples(), full(longest))
	for _, x := range wrong() {
		list = append(list, x.p)
	}
	sound := func(p api.Poly, e api.Errno) {
		t.Helper()
		if e == api.OK && polynomial.Check(p) != api.OK || e != api.OK && len(p) > 0 {
			t.Errorf("%.300v beside the error %d", p, e)
		}
	}
	number := func(a api.Int, e api.Errno) {
		t.Helper()
		if e == api.OK && integer.Check(a) != api.OK || e != api.OK && a != "" {
			t.Errorf("%.300q beside the error %d", a, e)
		}
	}
	numbers := []api.Int{"", "-", "x", "0", "1", "-1", "7", longest, "-" + longest, beyond}
	ints := []int{math.MinInt, -1, 0, 1, api.MaxList, api.MaxList + 1, math.MaxInt}
	for i, p := range list {
		for range 20 {
			q := list[r.Intn(len(list))]
			if len(p)*len(q) < 3000 {
				sound(polynomial.Mul(p, q))
			}
			sound(polynomial.Add(p, q))
			sound(polynomial.Sub(p, q))
			polynomial.Same(p, q)
		}
		sound(polynomial.Swap(p))
		for k, x := range ints {
			y := ints[(i+k)%len(ints)]
			sound(polynomial.Shift(p, x, y))
			number(polynomial.Coefficient(p, x, y))
			for _, c := range numbers {
				sound(polynomial.Monomial(x, y, c))
			}
		}
		for k, x := range numbers {
			number(polynomial.Evaluate(p, x, numbers[(i+k)%len(numbers)]))
		}
		text, e := polynomial.Text(p)
		if e == api.OK && (text == "" || len(text) > api.MaxText) || e != api.OK && text != "" {
			t.Errorf("%.300q beside the error %d", text, e)
		}
	}
}

// TestMemory changes results, and looks at the arguments and at other results.
func TestMemory(t *testing.T) {
	right := poly(term("-3", 2, 1), term("1", 0, 2), term("5", 0, 0))
	// The arguments have spare capacity, in which nothing may be written either.
	given := [2]api.Poly{append(make(api.Poly, 0, 20), right...), make(api.Poly, 0, 20)}
	results := []api.Poly{}
	keep := func(p api.Poly, _ api.Errno) { results = append(results, p) }
	for _, p := range given {
		for _, q := range given {
			keep(polynomial.Add(p, q))
			keep(polynomial.Sub(p, q))
			keep(polynomial.Mul(p, q))
		}
		keep(polynomial.Shift(p, 0, 0))
		keep(polynomial.Shift(p, 1, 1))
		keep(polynomial.Swap(p))
		polynomial.Evaluate(p, "2", "3")
		polynomial.Text(p)
	}
	keep(polynomial.Mul(given[0], poly(term("1", 0, 0))))
	keep(polynomial.Parse("X + 1"))
	keep(polynomial.Parse("X + 1"))
	before := make([]api.Poly, len(results))
	for i, p := range results {
		before[i] = slices.Clone(p)
	}
	for i, p := range results {
		if !slices.Equal(p, before[i]) {
			t.Errorf("the result %d changes with those before", i)
		}
		for k := range p {
			p[k].Coef = "x"
		}
		_ = append(p, term("y", 0, 0))
	}
	for i, want := range []api.Poly{right, nil} {
		if p := given[i]; !slices.Equal(p, want) || !slices.Equal(p[len(p):20], make(api.Poly, 20-len(p))) {
			t.Errorf("the argument %d is now %v", i, p[:20])
		}
	}
}
