package chips_test

import (
	"math"
	"math/big"
	"slices"
	"testing"

	"sandpile/api"
	"sandpile/chips"
)

// Tests of P17.1.

func TestCheck(t *testing.T) {
	for n := -2; n <= 14; n++ {
		for length := range 15 {
			for _, k := range []int{0, 1, -1, most, -most, most + 1, -most - 1, math.MaxInt, math.MinInt} {
				want := api.OK
				switch {
				case n < 1 || n > 12:
					want = api.ErrRange
				case length != n:
					want = api.ErrShape
				case k > most || k < -most:
					want = api.ErrRange
				}
				if e := chips.Check(slices.Repeat(api.Divisor{k}, length), n); e != want {
					t.Errorf("%d times %d on %d vertices: the error %d, want %d", length, k, n, e, want)
				}
			}
		}
	}
	for _, x := range []struct {
		d api.Divisor
		n int
		e api.Errno
	}{
		{nil, 0, api.ErrRange}, {nil, 1, api.ErrShape}, {api.Divisor{}, 12, api.ErrShape}, {api.Divisor{0}, math.MaxInt, api.ErrRange}, {api.Divisor{0}, math.MinInt, api.ErrRange}, {make(api.Divisor, 13), 13, api.ErrRange}, {make(api.Divisor, 12), 12, api.OK}, {make(api.Divisor, 5000), 5000, api.ErrRange},
		// The number of vertices comes first, then that of the ints, then the ints.
		{api.Divisor{most + 1}, 0, api.ErrRange}, {api.Divisor{most + 1}, 2, api.ErrShape}, {api.Divisor{0, 0, most + 1}, 2, api.ErrShape}, {api.Divisor{most + 1, 0}, 2, api.ErrRange},
		{api.Divisor{1, -2, 3}, 3, api.OK}, {api.Divisor{most, -most}, 2, api.OK},
	} {
		if e := chips.Check(x.d, x.n); e != x.e {
			t.Errorf("%s on %d vertices has the error %d, want %d", short(x.d), x.n, e, x.e)
		}
	}
	for _, d := range samples() {
		for v := range d {
			for _, k := range []int{most + 1, -most - 1, math.MaxInt, math.MinInt} {
				wrong := slices.Clone(d)
				wrong[v] = k
				if e := chips.Check(wrong, len(d)); e != api.ErrRange {
					t.Errorf("%v has the error %d", wrong, e)
				}
			}
		}
		if e := chips.Check(d, len(d)); e != api.OK {
			t.Errorf("%v has the error %d", d, e)
		}
	}
}

func TestZeroAndSome(t *testing.T) {
	for _, n := range []int{math.MinInt, -1, 0, 1, 2, 3, 11, 12, 13, 14, 5000, math.MaxInt} {
		isRight := n >= 1 && n <= 12
		d, e := chips.Zero(n)
		if isRight {
			agrees(t, "Zero", n, d, e, make(api.Divisor, n), api.OK)
		} else {
			agrees(t, "Zero", n, d, e, nil, api.ErrRange)
		}
		for _, v := range []int{math.MinInt, -1, 0, 1, 2, 10, 11, 12, 13, math.MaxInt} {
			for _, k := range []int{math.MinInt, -most - 1, -most, -most + 1, -1, 0, 1, most - 1, most, most + 1, math.MaxInt} {
				d, e := chips.Some(n, v, k)
				if isRight && v >= 0 && v < n && k <= most && k >= -most {
					want := make(api.Divisor, n)
					want[v] = k
					agrees(t, "Some", []int{n, v, k}, d, e, want, api.OK)
				} else {
					agrees(t, "Some", []int{n, v, k}, d, e, nil, api.ErrRange)
				}
			}
		}
	}
	d, e := chips.Some(3, 1, -2)
	agrees(t, "Some", "3, 1, -2", d, e, api.Divisor{0, -2, 0}, api.OK)
}

// TestErrorsOfDivisors calls the functions with lists that are no divisors.
func TestErrorsOfDivisors(t *testing.T) {
	expect := func(names []string, a, b api.Divisor, k int, want api.Errno) {
		t.Helper()
		got := calls(a, b, 2, 0, k)
		for _, name := range names {
			if e, ok := got.e[name]; !ok || e != want || e != api.OK && !got.isZero(name) {
				t.Errorf("%s of %s and %s has the error %d, want %d", name, short(a), short(b), e, want)
			}
		}
	}
	for _, wrong := range faulty() {
		if e := chips.Check(wrong, len(wrong)); e != api.ErrRange {
			t.Errorf("%s has the error %d", short(wrong), e)
		}
		// The error of the divisor comes before that of any factor.
		for _, k := range []int{0, 1, 2, most + 1, math.MinInt} {
			expect(withOne(), wrong, nil, k, api.ErrRange)
		}
		for _, other := range samples()[:60] {
			expect(withTwo(), wrong, other, 1, api.ErrRange)
			expect(withTwo(), other, wrong, 1, api.ErrRange)
		}
		for _, other := range faulty() {
			expect(withTwo(), wrong, other, 1, api.ErrRange)
		}
	}
	for a := 1; a <= 12; a++ {
		for b := 1; b <= 12; b++ {
			for _, k := range []int{0, 1, -most, most} {
				if a != b {
					expect(withTwo(), slices.Repeat(api.Divisor{k}, a), slices.Repeat(api.Divisor{-k}, b), 1, api.ErrShape)
					expect(withTwo(), slices.Repeat(api.Divisor{k}, a), slices.Repeat(api.Divisor{k}, b), 1, api.ErrShape)
				}
			}
		}
	}
}

func TestAddAndSub(t *testing.T) {
	inside := 0
	for _, x := range pairs() {
		sum, difference := make(api.Divisor, len(x[0])), make(api.Divisor, len(x[0]))
		for v := range sum {
			sum[v], difference[v] = x[0][v]+x[1][v], x[0][v]-x[1][v]
		}
		want, error := fits(sum)
		d, e := chips.Add(x[0], x[1])
		agrees(t, "Add", x, d, e, want, error)
		if error == api.OK {
			inside++
		}
		want, error = fits(difference)
		d, e = chips.Sub(x[0], x[1])
		agrees(t, "Sub", x, d, e, want, error)
	}
	if all := len(pairs()); inside < all/4 || inside > all*9/10 {
		t.Errorf("%d of %d sums are in their range", inside, all)
	}
	for _, x := range []struct {
		a, b, sum, difference api.Divisor
	}{
		{api.Divisor{1, -2, 3}, api.Divisor{1, 1, 1}, api.Divisor{2, -1, 4}, api.Divisor{0, -3, 2}}, {api.Divisor{0}, api.Divisor{0}, api.Divisor{0}, api.Divisor{0}},
		{api.Divisor{most}, api.Divisor{0}, api.Divisor{most}, api.Divisor{most}}, {api.Divisor{most}, api.Divisor{1}, nil, api.Divisor{most - 1}}, {api.Divisor{most - 1}, api.Divisor{1}, api.Divisor{most}, api.Divisor{most - 2}}, {api.Divisor{most}, api.Divisor{-1}, api.Divisor{most - 1}, nil}, {api.Divisor{-most}, api.Divisor{1}, api.Divisor{1 - most}, nil}, {api.Divisor{-most}, api.Divisor{-1}, nil, api.Divisor{1 - most}}, {api.Divisor{1 - most}, api.Divisor{-1}, api.Divisor{-most}, api.Divisor{2 - most}}, {api.Divisor{1 - most}, api.Divisor{1}, api.Divisor{2 - most}, api.Divisor{-most}},
		{api.Divisor{most}, api.Divisor{most}, nil, api.Divisor{0}}, {api.Divisor{most}, api.Divisor{-most}, api.Divisor{0}, nil}, {api.Divisor{-most}, api.Divisor{-most}, nil, api.Divisor{0}}, {api.Divisor{0, 0, most}, api.Divisor{0, 0, 1}, nil, api.Divisor{0, 0, most - 1}}, {api.Divisor{most, 0, 0}, api.Divisor{1, 0, 0}, nil, api.Divisor{most - 1, 0, 0}},
	} {
		d, e := chips.Add(x.a, x.b)
		agreesOrLarge(t, "Add", x, d, e, x.sum)
		d, e = chips.Sub(x.a, x.b)
		agreesOrLarge(t, "Sub", x, d, e, x.difference)
	}
}

// agreesOrLarge checks a divisor, which is too large if none is wanted.
func agreesOrLarge(t *testing.T, name string, what any, d api.Divisor, e api.Errno, want api.Divisor) {
	t.Helper()
	if want == nil {
		agrees(t, name, what, d, e, nil, api.ErrLarge)
		return
	}
	agrees(t, name, what, d, e, want, api.OK)
}

func TestNegAndScale(t *testing.T) {
	for _, d := range samples() {
		opposite := make(api.Divisor, len(d))
		for v := range d {
			opposite[v] = -d[v]
		}
		got, e := chips.Neg(d)
		agrees(t, "Neg", d, got, e, opposite, api.OK)
		// Some of these factors have products with 2^20 and others that would wrap around to 0, or to numbers in range.
		for _, k := range []int{0, 1, -1, 2, -2, 3, 1000, most - 1, most, -most, most + 1, -most - 1, 1 << 43, 1 << 44, 1<<44 + 1, -1 << 44, 1 << 62, -1 << 62, math.MaxInt, math.MinInt, math.MinInt + 1} {
			want, error := make(api.Divisor, len(d)), api.OK
			for v := range d {
				n := new(big.Int).Mul(big.NewInt(int64(d[v])), big.NewInt(int64(k)))
				if n.CmpAbs(big.NewInt(most)) > 0 {
					want, error = nil, api.ErrLarge
					break
				}
				want[v] = int(n.Int64())
			}
			got, e := chips.Scale(d, k)
			agrees(t, "Scale", []any{d, k}, got, e, want, error)
		}
	}
	for _, x := range []struct {
		d    api.Divisor
		k    int
		want api.Divisor
	}{
		{api.Divisor{1, -2, 3}, 2, api.Divisor{2, -4, 6}}, {api.Divisor{1, -2, 3}, -3, api.Divisor{-3, 6, -9}}, {api.Divisor{1, -2, 3}, 0, api.Divisor{0, 0, 0}}, {api.Divisor{1}, most, api.Divisor{most}}, {api.Divisor{1}, -most, api.Divisor{-most}}, {api.Divisor{1}, most + 1, nil}, {api.Divisor{1}, -most - 1, nil}, {api.Divisor{-1}, most + 1, nil}, {api.Divisor{most / 2}, 2, api.Divisor{most}}, {api.Divisor{most/2 + 1}, 2, nil}, {api.Divisor{-most / 2}, 2, api.Divisor{-most}}, {api.Divisor{-most/2 - 1}, 2, nil}, {api.Divisor{0, most}, 2, nil}, {api.Divisor{most, 0}, 2, nil}, {api.Divisor{0, 0}, math.MinInt, api.Divisor{0, 0}}, {api.Divisor{0, 0}, math.MaxInt, api.Divisor{0, 0}}, {api.Divisor{0, 0, 2}, math.MinInt, nil}, {api.Divisor{2, 0}, math.MinInt, nil}, {api.Divisor{0, most}, 1 << 44, nil}, {api.Divisor{-most}, -1 << 44, nil}, {api.Divisor{-1}, math.MinInt, nil},
	} {
		d, e := chips.Scale(x.d, x.k)
		agreesOrLarge(t, "Scale", x, d, e, x.want)
	}
}

func TestDegreeAndParts(t *testing.T) {
	for _, d := range samples() {
		degree, isEffective := 0, true
		var support []int
		positive, negative := make(api.Divisor, len(d)), make(api.Divisor, len(d))
		for v, k := range d {
			degree += k
			if k != 0 {
				support = append(support, v)
			}
			if k > 0 {
				positive[v] = k
			}
			if k < 0 {
				negative[v], isEffective = -k, false
			}
		}
		agreesParts(t, d, degree, isEffective, support, positive, negative)
	}
	for _, x := range []struct {
		d                  api.Divisor
		degree             int
		isEffective        bool
		support            []int
		positive, negative api.Divisor
	}{
		{api.Divisor{1, -2, 3}, 2, false, []int{0, 1, 2}, api.Divisor{1, 0, 3}, api.Divisor{0, 2, 0}}, {api.Divisor{0, 0}, 0, true, nil, api.Divisor{0, 0}, api.Divisor{0, 0}}, {api.Divisor{-1}, -1, false, []int{0}, api.Divisor{0}, api.Divisor{1}}, {api.Divisor{0, 4, 0, 5}, 9, true, []int{1, 3}, api.Divisor{0, 4, 0, 5}, api.Divisor{0, 0, 0, 0}}, {api.Divisor{9, 0, -1}, 8, false, []int{0, 2}, api.Divisor{9, 0, 0}, api.Divisor{0, 0, 1}}, {api.Divisor{-1, 9}, 8, false, []int{0, 1}, api.Divisor{0, 9}, api.Divisor{1, 0}},
		{slices.Repeat(api.Divisor{most}, 12), 12 * most, true, []int{0, 1, 2, 3, 4, 5, 6, 7, 8, 9, 10, 11}, slices.Repeat(api.Divisor{most}, 12), make(api.Divisor, 12)}, {slices.Repeat(api.Divisor{-most}, 12), -12 * most, false, []int{0, 1, 2, 3, 4, 5, 6, 7, 8, 9, 10, 11}, make(api.Divisor, 12), slices.Repeat(api.Divisor{most}, 12)},
	} {
		agreesParts(t, x.d, x.degree, x.isEffective, x.support, x.positive, x.negative)
	}
}

// agreesParts checks the results of functions with one divisor.
func agreesParts(t *testing.T, d api.Divisor, degree int, isEffective bool, support []int, positive, negative api.Divisor) {
	t.Helper()
	n, e := chips.Degree(d)
	agreesValue(t, "Degree", d, n, e, degree, api.OK)
	is, e := chips.Effective(d)
	agreesValue(t, "Effective", d, is, e, isEffective, api.OK)
	l, e := chips.Support(d)
	agrees(t, "Support", d, l, e, support, api.OK)
	p, q, e := chips.Parts(d)
	agrees(t, "the positive part", d, p, e, positive, api.OK)
	agrees(t, "the negative part", d, q, e, negative, api.OK)
}
