package chips_test

import (
	"fmt"
	"math"
	"math/rand"
	"slices"
	"testing"

	"sandpile/api"
	"sandpile/chips"
)

// Tests of P17.3, and of P1 for package chips.

// halves returns divisors on n vertices, of which three can be added.
func halves(n int) []api.Divisor {
	r := rand.New(rand.NewSource(int64(71 + n)))
	l := []api.Divisor{make(api.Divisor, n)}
	for range 8 {
		l = append(l, some(r, n, 2), some(r, n, 50), some(r, n, most/3))
	}
	return l
}

func TestGroup(t *testing.T) {
	add := func(a, b api.Divisor) api.Divisor { return must[api.Divisor](t)(chips.Add(a, b)) }
	sub := func(a, b api.Divisor) api.Divisor { return must[api.Divisor](t)(chips.Sub(a, b)) }
	neg := func(d api.Divisor) api.Divisor { return must[api.Divisor](t)(chips.Neg(d)) }
	scale := func(d api.Divisor, k int) api.Divisor { return must[api.Divisor](t)(chips.Scale(d, k)) }
	degree := func(d api.Divisor) int { return must[int](t)(chips.Degree(d)) }
	same := func(law string, x, y api.Divisor) {
		t.Helper()
		if !slices.Equal(x, y) {
			t.Errorf("%s: %v and %v", law, x, y)
		}
	}
	for n := 1; n <= api.MaxVertices; n++ {
		zero := must[api.Divisor](t)(chips.Zero(n))
		for _, a := range halves(n) {
			same("the sum with 0", add(a, zero), a)
			same("the sum with the opposite", add(a, neg(a)), zero)
			same("the opposite of the opposite", neg(neg(a)), a)
			same("the double", scale(a, 2), add(a, a))
			same("three times", scale(a, 3), add(scale(a, 2), a))
			same("the negative multiple", scale(a, -1), neg(a))
			for _, b := range halves(n) {
				same("the order", add(a, b), add(b, a))
				same("the difference", sub(a, b), add(a, neg(b)))
				same("what is added and taken away", sub(add(a, b), b), a)
				if degree(add(a, b)) != degree(a)+degree(b) || degree(sub(a, b)) != degree(a)-degree(b) {
					t.Errorf("the degrees of %v and %v are not additive", a, b)
				}
				for _, c := range halves(n) {
					same("brackets", add(add(a, b), c), add(a, add(b, c)))
				}
			}
		}
	}
}

func TestParts(t *testing.T) {
	for _, d := range samples() {
		p, q, e := chips.Parts(d)
		if e != api.OK || !must[bool](t)(chips.Effective(p)) || !must[bool](t)(chips.Effective(q)) {
			t.Errorf("%v has the parts %v and %v beside the error %d", d, p, q, e)
		}
		if difference := must[api.Divisor](t)(chips.Sub(p, q)); !slices.Equal(difference, d) {
			t.Errorf("%v is the difference of the parts of %v", difference, d)
		}
		others := must[[]int](t)(chips.Support(q))
		for _, v := range must[[]int](t)(chips.Support(p)) {
			if slices.Contains(others, v) {
				t.Errorf("%d is in the supports of both parts of %v", v, d)
			}
		}
		if isEffective := must[bool](t)(chips.Effective(d)); isEffective != (len(others) == 0) {
			t.Errorf("%v is effective: %v, with the negative part %v", d, isEffective, q)
		}
	}
}

func TestMeetAndJoin(t *testing.T) {
	above := func(x, y api.Divisor) bool { return must[bool](t)(chips.Above(x, y)) }
	for n := 1; n <= api.MaxVertices; n++ {
		for _, a := range halves(n) {
			for _, b := range halves(n) {
				meet, join := must[api.Divisor](t)(chips.Meet(a, b)), must[api.Divisor](t)(chips.Join(a, b))
				if !slices.Equal(must[api.Divisor](t)(chips.Add(meet, join)), must[api.Divisor](t)(chips.Add(a, b))) {
					t.Errorf("%v and %v do not add up to the sum of %v and %v", meet, join, a, b)
				}
				if !above(a, meet) || !above(b, meet) || !above(join, a) || !above(join, b) {
					t.Errorf("%v and %v do not lie below and above %v and %v", meet, join, a, b)
				}
				order, opposite := must[int](t)(chips.Compare(a, b)), must[int](t)(chips.Compare(b, a))
				if order != -opposite || (order == 0) != slices.Equal(a, b) || above(a, b) && order < 0 {
					t.Errorf("%v and %v are compared as %d and %d", a, b, order, opposite)
				}
			}
		}
	}
}

func TestAllInOrder(t *testing.T) {
	for _, x := range [][2]int{{1, 9}, {2, 9}, {2, 16383}, {3, 0}, {3, 30}, {4, 12}, {5, 9}, {12, 3}, {12, 5}} {
		l := must[[]api.Divisor](t)(chips.All(x[0], x[1]))
		for i, d := range l {
			if !must[bool](t)(chips.Effective(d)) || must[int](t)(chips.Degree(d)) != x[1] || chips.Check(d, x[0]) != api.OK {
				t.Errorf("%v is in the list for %v", d, x)
			}
			next, more, e := chips.Next(d)
			if i == len(l)-1 {
				agreesNext(t, d, next, more, e, nil, api.OK)
				continue
			}
			agreesNext(t, d, next, more, e, l[i+1], api.OK)
			if must[int](t)(chips.Compare(d, l[i+1])) != -1 {
				t.Errorf("%v is before %v", d, l[i+1])
			}
		}
	}
}

// TestTotal calls every function with all kinds of arguments: a panic fails the test, and beside an error everything is zero.
func TestTotal(t *testing.T) {
	r := rand.New(rand.NewSource(72))
	ints := []int{math.MinInt, -1 << 44, -most - 1, -most, -2, -1, 0, 0, 0, 1, 1, 1, 2, 3, 4, 5, 11, 12, 13, 50, most, most + 1, 1 << 44, math.MaxInt}
	any := func() int { return ints[r.Intn(len(ints))] }
	for range 10000 {
		var a, b api.Divisor
		n := r.Intn(15)
		for range n {
			a, b = append(a, any()), append(b, any())
		}
		if r.Intn(2) == 0 && n > 0 {
			a, b = some(r, n, 2), some(r, max(n-r.Intn(2), 1), most)
		}
		got := calls(a, b, any(), any(), any())
		if len(got.e) != 17 {
			t.Fatalf("%d functions are called", len(got.e))
		}
		for name, e := range got.e {
			if e != api.OK && !got.isZero(name) {
				t.Errorf("%s of %v and %v has a result beside the error %d", name, a, b, e)
			}
		}
	}
}

// TestMemory changes results, and looks at the arguments and at other results.
func TestMemory(t *testing.T) {
	for _, x := range pairs()[:300] {
		// The arguments have spare capacity, in which nothing may be written either.
		n := len(x[0])
		a, b := append(make(api.Divisor, 0, 20), x[0]...), append(make(api.Divisor, 0, 20), x[1]...)
		first, second := calls(a, b, n, 0, n%4), calls(a, b, n, 0, n%4)
		before := fmt.Sprint(second)
		for _, l := range first.divisors {
			for _, d := range l {
				for v := range d {
					d[v] = 99
				}
				_ = append(d, 99, 99, 99)
			}
		}
		for _, l := range first.ints {
			for i := range l {
				l[i] = 99
			}
			_ = append(l, 99, 99)
		}
		if now := fmt.Sprint(second); now != before {
			t.Errorf("%s changes to %s with another result", before, now)
		}
		if again := fmt.Sprint(calls(a, b, n, 0, n%4)); again != before {
			t.Errorf("%s instead of %s", again, before)
		}
		rest := make(api.Divisor, 20-n)
		if !slices.Equal(a, x[0]) || !slices.Equal(b, x[1]) || !slices.Equal(a[n:20], rest) || !slices.Equal(b[n:20], rest) {
			t.Errorf("the arguments are now %v and %v", a[:20], b[:20])
		}
	}
}

// TestMemoryOfOneResult changes divisors of a result, and looks at the others of it.
func TestMemoryOfOneResult(t *testing.T) {
	lists := [][]api.Divisor{must[[]api.Divisor](t)(chips.All(1, 3)), must[[]api.Divisor](t)(chips.All(3, 4)), must[[]api.Divisor](t)(chips.All(5, 3))}
	for _, d := range samples() {
		p, q, _ := chips.Parts(d)
		lists = append(lists, []api.Divisor{p, q}, []api.Divisor{q, p})
	}
	for _, l := range lists {
		var before []api.Divisor
		for _, d := range l {
			before = append(before, slices.Clone(d))
		}
		for i, d := range l {
			for v := range d {
				d[v] = 99
			}
			_ = append(d, 99, 99, 99)
			if !slices.EqualFunc(l[i+1:], before[i+1:], slices.Equal) {
				t.Errorf("divisors of %v share their memory", before)
			}
		}
	}
}
