package abelian_test

import (
	"math/rand"
	"slices"
	"testing"

	"sandpile/abelian"
	"sandpile/api"
	"sandpile/integer"
)

// Tests of P5.3, and of P1 for package abelian.

// must returns a list that has no error.
func must(t *testing.T) func([]api.Int, api.Errno) []api.Int {
	return func(a []api.Int, e api.Errno) []api.Int {
		t.Helper()
		if e != api.OK {
			t.Fatalf("%v with the error %d", a, e)
		}
		return a
	}
}

// must1 returns an integer that has no error.
func must1(t *testing.T) func(api.Int, api.Errno) api.Int {
	return func(a api.Int, e api.Errno) api.Int {
		t.Helper()
		if e != api.OK {
			t.Fatalf("%q with the error %d", a, e)
		}
		return a
	}
}

func TestLawsOfGroups(t *testing.T) {
	r := rand.New(rand.NewSource(7))
	is := must(t)
	for _, g := range groups() {
		add := func(a, b []api.Int) []api.Int { return is(abelian.Add(g, a, b)) }
		neg := func(a []api.Int) []api.Int { return is(abelian.Neg(g, a)) }
		times := func(k api.Int, a []api.Int) []api.Int { return is(abelian.Times(g, k, a)) }
		zero, l := repeated(len(g), "0"), elementsOf(r, g)
		for range 8 {
			a, b, c := l[r.Intn(len(l))], l[r.Intn(len(l))], l[r.Intn(len(l))]
			for i, law := range [][2][]api.Int{
				{add(a, b), add(b, a)},
				{add(add(a, b), c), add(a, add(b, c))},
				{add(a, zero), a},
				{add(a, neg(a)), zero},
				{neg(neg(a)), a},
				{times("0", a), zero},
				{times("1", a), a},
				{times("-1", a), neg(a)},
				{times("2", a), add(a, a)},
				{times("-3", a), neg(add(a, add(a, a)))},
				{times("12345678901234567890", add(a, b)), add(times("12345678901234567890", a), times("12345678901234567890", b))},
				{times(longest, a), add(times(longest[1:]+"0", a), times("9", a))},
				{times("1000000", times("-1001", a)), times("-1001000000", a)},
				{is(abelian.Element(g, a)), a},
			} {
				if !slices.Equal(law[0], law[1]) {
					t.Errorf("law %d in the group %v: %v and %v", i, g, law[0], law[1])
				}
			}
		}
	}
}

func TestOrders(t *testing.T) {
	number := must1(t)
	for _, g := range small() {
		l, e := abelian.Elements(g)
		if e != api.OK {
			t.Fatalf("the elements of %v have the error %d", g, e)
		}
		order, exponent := number(abelian.Order(g)), number(abelian.Exponent(g))
		orders, found := map[api.Int]int{}, map[string]bool{}
		for _, a := range l {
			n := number(abelian.OrderOf(g, a))
			orders[n]++
			found[text(a)] = true
			if number(integer.Rem(exponent, n)) != "0" || number(integer.Rem(order, n)) != "0" {
				t.Errorf("the order of %v in the group %v is %s", a, g, n)
			}
		}
		if integer.Of(len(l)) != order || integer.Of(len(found)) != order {
			t.Errorf("the group %v has %d elements, %d of them different", g, len(l), len(found))
		}
		if orders[exponent] == 0 {
			t.Errorf("no element of the group %v has the order %s", g, exponent)
		}
		for k := range 130 {
			k := integer.Of(k + 1)
			count := 0
			for n, many := range orders {
				if number(integer.Rem(k, n)) == "0" {
					count += many
				}
			}
			if number(abelian.Count(g, k)) != integer.Of(count) {
				t.Errorf("%d elements of the group %v have an order that divides %s", count, g, k)
			}
		}
	}
}

// text joins the residues of an element.
func text(a []api.Int) string {
	s := ""
	for _, n := range a {
		s += string(n) + " "
	}
	return s
}

// TestLongOrders has groups with too many elements to list them.
func TestLongOrders(t *testing.T) {
	r := rand.New(rand.NewSource(8))
	is, number := must(t), must1(t)
	for _, g := range groups() {
		exponent, zero := number(abelian.Exponent(g)), repeated(len(g), "0")
		for _, a := range elementsOf(r, g) {
			n := number(abelian.OrderOf(g, a))
			if number(integer.Rem(exponent, n)) != "0" || !slices.Equal(is(abelian.Times(g, n, a)), zero) {
				t.Errorf("the order of %v in the group %v is %s", a, g, n)
			}
			for _, prime := range []api.Int{"2", "3", "5", "7", "11", "101", "1000000007"} {
				if number(integer.Rem(n, prime)) == "0" && slices.Equal(is(abelian.Times(g, number(integer.Quo(n, prime)), a)), zero) {
					t.Errorf("the order of %v in the group %v is less than %s", a, g, n)
				}
			}
		}
		if len(g) == 0 {
			continue
		}
		zero[len(g)-1] = "1"
		if n := number(abelian.OrderOf(g, zero)); n != exponent {
			t.Errorf("the order of %v in the group %v is %s", zero, g, n)
		}
	}
}

// TestTotal calls every function with all kinds of arguments: a panic fails the test, and a result is either right or zero beside an error.
func TestTotal(t *testing.T) {
	r := rand.New(rand.NewSource(9))
	lists := append(small()[:8], groups()[len(small()):]...)
	for _, x := range wrong() {
		lists = append(lists, x.g)
	}
	for _, x := range wrongElements() {
		lists = append(lists, x.a)
	}
	number := func(a api.Int, e api.Errno) {
		t.Helper()
		if e == api.OK && integer.Check(a) != api.OK || e != api.OK && a != "" {
			t.Errorf("%q beside the error %d", a, e)
		}
	}
	for _, g := range lists {
		element := func(a []api.Int, e api.Errno) {
			t.Helper()
			if e != api.OK && len(a) > 0 {
				t.Errorf("%v beside the error %d", a, e)
			}
			if again, f := abelian.Element(g, a); e == api.OK && (f != api.OK || !slices.Equal(a, again)) {
				t.Errorf("%v is no element of the group %v", a, g)
			}
		}
		number(abelian.Order(g))
		number(abelian.Exponent(g))
		abelian.Elements(g)
		if of, e := abelian.Of(g); e == api.OK && abelian.Check(of) != api.OK || e != api.OK && len(of) > 0 {
			t.Errorf("%v beside the error %d", of, e)
		}
		for _, a := range lists {
			b := lists[r.Intn(len(lists))]
			k := append(a, "1", "0", "-2", "y", longest)[r.Intn(len(a)+5)]
			element(abelian.Element(g, a))
			element(abelian.Add(g, a, b))
			element(abelian.Neg(g, a))
			element(abelian.Times(g, k, a))
			number(abelian.OrderOf(g, a))
			number(abelian.Count(g, k))
		}
	}
}

// TestMemory changes results, and looks at the arguments and at other results.
func TestMemory(t *testing.T) {
	for _, l := range []([][]api.Int){{list(2, 6), list(1, 5), list(1, 3)}, {list(1), nil, nil}, {list(5), list(0), list(4)}, {nil, nil, nil}} {
		// The lists have spare capacity, in which nothing may be written either.
		given := [3][]api.Int{}
		for i := range given {
			given[i] = append(make([]api.Int, 0, 20), l[i]...)
		}
		g, a, b := given[0], given[1], given[2]
		results := [][]api.Int{}
		keep := func(l []api.Int, _ api.Errno) { results = append(results, l) }
		keep(abelian.Of(g))
		keep(abelian.Element(g, a))
		keep(abelian.Add(g, a, b))
		keep(abelian.Neg(g, a))
		keep(abelian.Times(g, "1", a))
		abelian.OrderOf(g, a)
		abelian.Count(g, "2")
		abelian.Exponent(g)
		elements, _ := abelian.Elements(g)
		results = append(results, elements...)
		before := make([][]api.Int, len(results))
		for i, result := range results {
			before[i] = slices.Clone(result)
		}
		for i, result := range results {
			if !slices.Equal(result, before[i]) {
				t.Errorf("the result %d changes with those before", i)
			}
			for k := range result {
				result[k] = "x"
			}
			_ = append(result, "y", "y")
		}
		for i, argument := range given {
			if !slices.Equal(argument, l[i]) || !slices.Equal(argument[len(argument):20], make([]api.Int, 20-len(argument))) {
				t.Errorf("the argument %d is now %v", i, argument[:20])
			}
		}
	}
}
