package chips_test

import (
	"math"
	"math/big"
	"slices"
	"testing"

	"sandpile/api"
	"sandpile/chips"
)

// Tests of P17.2.

func TestOrders(t *testing.T) {
	for _, x := range pairs() {
		a, b := x[0], x[1]
		order, isAbove := 0, true
		meet, join := make(api.Divisor, len(a)), make(api.Divisor, len(a))
		for v := range a {
			if order == 0 && a[v] < b[v] {
				order = -1
			}
			if order == 0 && a[v] > b[v] {
				order = 1
			}
			meet[v], join[v] = a[v], b[v]
			if a[v] > b[v] {
				meet[v], join[v] = b[v], a[v]
			}
			isAbove = isAbove && a[v] >= b[v]
		}
		agreesOrder(t, a, b, order, isAbove, meet, join)
	}
	for _, x := range []struct {
		a, b       api.Divisor
		order      int
		isAbove    bool
		meet, join api.Divisor
	}{
		{api.Divisor{2, 0}, api.Divisor{1, 5}, 1, false, api.Divisor{1, 0}, api.Divisor{2, 5}}, {api.Divisor{1, 5}, api.Divisor{2, 0}, -1, false, api.Divisor{1, 0}, api.Divisor{2, 5}},
		// Equal ones, those that differ at the first or the last vertex alone, and later vertices that would say otherwise.
		{api.Divisor{1, -2, 3}, api.Divisor{1, -2, 3}, 0, true, api.Divisor{1, -2, 3}, api.Divisor{1, -2, 3}}, {api.Divisor{0}, api.Divisor{0}, 0, true, api.Divisor{0}, api.Divisor{0}}, {api.Divisor{1, 0, 0}, api.Divisor{0, 0, 0}, 1, true, api.Divisor{0, 0, 0}, api.Divisor{1, 0, 0}}, {api.Divisor{0, 0, 0}, api.Divisor{0, 0, 1}, -1, false, api.Divisor{0, 0, 0}, api.Divisor{0, 0, 1}}, {api.Divisor{0, 0, 1}, api.Divisor{0, 0, 0}, 1, true, api.Divisor{0, 0, 0}, api.Divisor{0, 0, 1}}, {api.Divisor{0, 1, 9}, api.Divisor{0, 2, -9}, -1, false, api.Divisor{0, 1, -9}, api.Divisor{0, 2, 9}}, {api.Divisor{-1, 9, 9}, api.Divisor{0, 0, 0}, -1, false, api.Divisor{-1, 0, 0}, api.Divisor{0, 9, 9}}, {api.Divisor{0, 0, 0}, api.Divisor{-1, 9, 9}, 1, false, api.Divisor{-1, 0, 0}, api.Divisor{0, 9, 9}},
		{api.Divisor{most}, api.Divisor{-most}, 1, true, api.Divisor{-most}, api.Divisor{most}}, {api.Divisor{-most}, api.Divisor{most}, -1, false, api.Divisor{-most}, api.Divisor{most}}, {api.Divisor{-2, -2}, api.Divisor{-3, -2}, 1, true, api.Divisor{-3, -2}, api.Divisor{-2, -2}}, {api.Divisor{10, 0}, api.Divisor{9, 0}, 1, true, api.Divisor{9, 0}, api.Divisor{10, 0}},
	} {
		agreesOrder(t, x.a, x.b, x.order, x.isAbove, x.meet, x.join)
	}
}

// agreesOrder checks the results of functions that compare two divisors.
func agreesOrder(t *testing.T, a, b api.Divisor, order int, isAbove bool, meet, join api.Divisor) {
	t.Helper()
	what := [2]api.Divisor{a, b}
	n, e := chips.Compare(a, b)
	agreesValue(t, "Compare", what, n, e, order, api.OK)
	is, e := chips.Above(a, b)
	agreesValue(t, "Above", what, is, e, isAbove, api.OK)
	d, e := chips.Meet(a, b)
	agrees(t, "Meet", what, d, e, meet, api.OK)
	d, e = chips.Join(a, b)
	agrees(t, "Join", what, d, e, join, api.OK)
}

// listed returns all lists of n ints from 0 to k that add up to k, in lexicographic order.
func listed(n, k int) []api.Divisor {
	if n == 0 {
		if k == 0 {
			return []api.Divisor{{}}
		}
		return nil
	}
	var l []api.Divisor
	for first := range k + 1 {
		for _, rest := range listed(n-1, k-first) {
			l = append(l, append(api.Divisor{first}, rest...))
		}
	}
	return l
}

func TestAll(t *testing.T) {
	for n := 1; n <= api.MaxVertices; n++ {
		for k := range 40 {
			count := new(big.Int).Binomial(int64(n+k-1), int64(k))
			l, e := chips.All(n, k)
			if count.Cmp(big.NewInt(api.MaxFound)) > 0 {
				agreesList(t, n, k, l, e, nil, api.ErrLimit)
				continue
			}
			agreesList(t, n, k, l, e, listed(n, k), api.OK)
		}
	}
	// On 2 vertices there are 1 more than the degree: here just as many as MaxFound, and one more.
	l, e := chips.All(2, 16383)
	agreesList(t, 2, 16383, l, e, listed(2, 16383), api.OK)
	l, e = chips.All(2, 16384)
	agreesList(t, 2, 16384, l, e, nil, api.ErrLimit)
	// 16290 and 16471 on 3, 15504 and 20349 on 6 vertices.
	for _, x := range [][2]int{{3, 179}, {6, 15}} {
		l, e := chips.All(x[0], x[1])
		agreesList(t, x[0], x[1], l, e, listed(x[0], x[1]), api.OK)
		l, e = chips.All(x[0], x[1]+1)
		agreesList(t, x[0], x[1]+1, l, e, nil, api.ErrLimit)
	}
}

// agreesList checks the divisors of All.
func agreesList(t *testing.T, n, k int, l []api.Divisor, e api.Errno, want []api.Divisor, error api.Errno) {
	t.Helper()
	if !slices.EqualFunc(l, want, slices.Equal) || e != error {
		t.Errorf("All of %d and %d: %d divisors %s beside the error %d, want %d %s beside %d", n, k, len(l), short(l), e, len(want), short(want), error)
	}
}

func TestAllByHand(t *testing.T) {
	for _, x := range []struct {
		n, k int
		want []api.Divisor
		e    api.Errno
	}{
		{3, 2, []api.Divisor{{0, 0, 2}, {0, 1, 1}, {0, 2, 0}, {1, 0, 1}, {1, 1, 0}, {2, 0, 0}}, api.OK}, {2, 1, []api.Divisor{{0, 1}, {1, 0}}, api.OK},
		{1, 0, []api.Divisor{{0}}, api.OK}, {2, 0, []api.Divisor{{0, 0}}, api.OK}, {12, 0, []api.Divisor{make(api.Divisor, 12)}, api.OK}, {1, 5, []api.Divisor{{5}}, api.OK}, {1, most, []api.Divisor{{most}}, api.OK}, {1, most - 1, []api.Divisor{{most - 1}}, api.OK},
		// Errors of the numbers come before ErrLimit, and that only where the divisors are many.
		{0, 0, nil, api.ErrRange}, {-1, 0, nil, api.ErrRange}, {13, 0, nil, api.ErrRange}, {math.MinInt, 1, nil, api.ErrRange}, {math.MaxInt, 1, nil, api.ErrRange}, {13, most, nil, api.ErrRange}, {0, most, nil, api.ErrRange}, {13, 20, nil, api.ErrRange}, {1, -1, nil, api.ErrRange}, {12, -1, nil, api.ErrRange}, {2, math.MinInt, nil, api.ErrRange}, {1, most + 1, nil, api.ErrRange}, {2, most + 1, nil, api.ErrRange}, {12, most + 1, nil, api.ErrRange}, {12, math.MaxInt, nil, api.ErrRange}, {13, math.MaxInt, nil, api.ErrRange}, {0, -1, nil, api.ErrRange},
		{2, most, nil, api.ErrLimit}, {12, most, nil, api.ErrLimit}, {3, most - 1, nil, api.ErrLimit}, {12, 20, nil, api.ErrLimit},
	} {
		l, e := chips.All(x.n, x.k)
		agreesList(t, x.n, x.k, l, e, x.want, x.e)
	}
}

func TestNext(t *testing.T) {
	for n := 1; n <= api.MaxVertices; n++ {
		for k := range 8 {
			l := listed(n, k)
			for i, d := range l {
				next, more, e := chips.Next(d)
				if i == len(l)-1 {
					agreesNext(t, d, next, more, e, nil, api.OK)
					continue
				}
				agreesNext(t, d, next, more, e, l[i+1], api.OK)
			}
		}
	}
	for _, x := range []struct {
		d, want api.Divisor
		e       api.Errno
	}{
		{api.Divisor{0, 2, 0}, api.Divisor{1, 0, 1}, api.OK}, {api.Divisor{1, 0, 1}, api.Divisor{1, 1, 0}, api.OK}, {api.Divisor{0, 5, 0, 0}, api.Divisor{1, 0, 0, 4}, api.OK}, {api.Divisor{3, 0, 7, 0}, api.Divisor{3, 1, 0, 6}, api.OK},
		// The last one of its degree, with one vertex, and without chips.
		{api.Divisor{2, 0, 0}, nil, api.OK}, {api.Divisor{1, 0}, nil, api.OK}, {api.Divisor{0}, nil, api.OK}, {api.Divisor{9}, nil, api.OK}, {api.Divisor{most}, nil, api.OK}, {api.Divisor{0, 0, 0}, nil, api.OK}, {make(api.Divisor, 12), nil, api.OK},
		// Degrees of MaxChips and more.
		{api.Divisor{most, 0}, nil, api.OK}, {api.Divisor{0, most}, api.Divisor{1, most - 1}, api.OK}, {api.Divisor{most - 1, 1}, api.Divisor{most, 0}, api.OK}, {api.Divisor{0, most, 0}, api.Divisor{1, 0, most - 1}, api.OK}, {api.Divisor{most, 1}, nil, api.ErrLarge}, {api.Divisor{1, most}, nil, api.ErrLarge}, {api.Divisor{most/2 + 1, most / 2}, nil, api.ErrLarge}, {api.Divisor{most / 2, most / 2}, api.Divisor{most/2 + 1, most/2 - 1}, api.OK}, {slices.Repeat(api.Divisor{most}, 12), nil, api.ErrLarge}, {api.Divisor{most, 0, 0, 1}, nil, api.ErrLarge},
		// Debts, also where the degree would be too large.
		{api.Divisor{-1}, nil, api.ErrState}, {api.Divisor{3, -1}, nil, api.ErrState}, {api.Divisor{-1, 3}, nil, api.ErrState}, {api.Divisor{0, -1, 1}, nil, api.ErrState}, {api.Divisor{most, most, -1}, nil, api.ErrState}, {api.Divisor{-1, most, most}, nil, api.ErrState}, {api.Divisor{-most, -most}, nil, api.ErrState}, {api.Divisor{most, -most}, nil, api.ErrState},
	} {
		next, more, e := chips.Next(x.d)
		agreesNext(t, x.d, next, more, e, x.want, x.e)
	}
}

// agreesNext checks the next divisor, which is there if one is wanted.
func agreesNext(t *testing.T, d, next api.Divisor, more bool, e api.Errno, want api.Divisor, error api.Errno) {
	t.Helper()
	if !slices.Equal(next, want) || more != (want != nil) || e != error {
		t.Errorf("Next of %v: %v, %v beside the error %d, want %v beside %d", d, next, more, e, want, error)
	}
}
