package leastaction_test

import (
	"fmt"
	"math"
	"math/rand"
	"slices"
	"testing"

	"sandpile/api"
	"sandpile/leastaction"
	"sandpile/stabilize"
)

// Tests of P22.3, and of P1 for package leastaction.

// TestOdometerOnly looks at all scripts that are at most two firings above odometers: only the odometer verifies, legal scripts are not above it, and do not stabilize unless they are the odometer.
func TestOdometerOnly(t *testing.T) {
	r := rand.New(rand.NewSource(237))
	tried, legal := 0, 0
	for _, g := range samples(6) {
		for range 4 {
			q := r.Intn(g.N)
			d := some(r, g, q, 15)
			_, odometer, e := stabilize.Stabilize(g, q, d)
			greatest := plus(odometer, 2, sets(g.N)[1<<g.N-2]...)
			if greatest[q] = 0; e != api.OK || number(greatest) > 4000 {
				continue
			}
			scriptsUpTo(greatest, func(s api.Script) {
				what := []any{g, q, d, s}
				want := api.ErrProof
				if slices.Equal(s, odometer) {
					want = api.OK
				}
				if e := leastaction.Verify(g, q, d, s); e != want {
					t.Errorf("Verify of %s has the error %d, and the odometer is %v", short(what), e, odometer)
				}
				is, e := leastaction.Stabilizing(g, q, d, s)
				_, isLegal, error := leastaction.Legal(g, q, d, s)
				meet, _ := leastaction.Meet(g, s, odometer)
				if e != api.OK || error != api.OK || isLegal && (!slices.Equal(meet, s) || is != (want == api.OK)) || want == api.OK && !(is && isLegal) {
					t.Errorf("%s is stabilizing: %v, and legal: %v, and the odometer is %v; errors %d and %d", short(what), is, isLegal, odometer, e, error)
				}
				tried++
				if isLegal {
					legal++
				}
			})
		}
	}
	if tried < 50000 || legal < 2000 {
		t.Errorf("%d scripts are tried, and %d are legal", tried, legal)
	}
}

// TestDescent descends from stabilizing scripts to odometers, and looks at their meets.
func TestDescent(t *testing.T) {
	r := rand.New(rand.NewSource(238))
	for _, g := range samples(api.MaxVertices) {
		for range 6 {
			q := r.Intn(g.N)
			d := some(r, g, q, 100)
			_, odometer, _ := stabilize.Stabilize(g, q, d)
			first, second := someStabilizing(r, g, q, d, 20), someStabilizing(r, g, q, d, 20)
			meet, e := leastaction.Meet(g, first, second)
			is, error := leastaction.Stabilizing(g, q, d, meet)
			if !is || e != api.OK || error != api.OK {
				t.Errorf("the meet %v of %v and %v is not stabilizing for %v on %v with the sink %d, or the errors are %d and %d", meet, first, second, d, g, q, e, error)
			}
			for _, s := range []api.Script{first, second, meet, odometer} {
				left, _, e := leastaction.Descend(g, q, d, s)
				agrees(t, "Descend", []any{g, q, d, s}, left, e, odometer, api.OK)
			}
		}
	}
}

// TestOdometersAreLegal compares the moves of odometers with those of stabilizations.
func TestOdometersAreLegal(t *testing.T) {
	r := rand.New(rand.NewSource(239))
	moved, longer := 0, 0
	for _, g := range samples(api.MaxVertices) {
		for range 6 {
			q := r.Intn(g.N)
			d := some(r, g, q, 300)
			_, odometer, _ := stabilize.Stabilize(g, q, d)
			want, error := stabilize.Topple(g, q, d)
			l, is, e := leastaction.Legal(g, q, d, odometer)
			agrees(t, "Legal", []any{g, q, d, odometer}, l, e, want, error)
			agreesTruth(t, "Legal", []any{g, q, d, odometer}, is, e, e == api.OK, error)
			moved += len(l)
			if e == api.ErrLimit {
				longer++
			}
		}
	}
	if moved < 10000 || longer < 5 {
		t.Errorf("there are %d moves, and too many of them %d times", moved, longer)
	}
}

// TestTotal calls every function with all kinds of arguments: a panic fails the test, and beside an error everything is zero.
func TestTotal(t *testing.T) {
	r := rand.New(rand.NewSource(240))
	ints := []int{math.MinInt, -most - 1, -most, -2, -1, 0, 0, 0, 1, 1, 1, 2, 3, 4, 5, 11, 12, 13, 50, 4096, 4097, most, most + 1, math.MaxInt}
	any := func() int { return ints[r.Intn(len(ints))] }
	script := func(n int) api.Script {
		s := make(api.Script, n)
		for v := range s {
			if s[v] = r.Intn(4); r.Intn(4) == 0 {
				s[v] = any()
			}
		}
		return s
	}
	right := samples(api.MaxVertices)
	for range 4000 {
		g := right[r.Intn(len(right))]
		q := r.Intn(g.N)
		x := arguments{g, q, some(r, g, q, 1+r.Intn(100)), script(g.N), script(g.N)}
		if r.Intn(3) == 0 {
			x.s[q] = 0
		}
		if r.Intn(4) == 0 {
			x.s = someStabilizing(r, g, q, x.d, 10)
		}
		if r.Intn(3) == 0 {
			x.q, x.d, x.t = any(), api.Divisor(script(r.Intn(6))), script(r.Intn(6))
		}
		if r.Intn(4) == 0 {
			x.g = edges(any())
			for range r.Intn(4) {
				x.g.Edges = append(x.g.Edges, edge(any(), any(), any()))
			}
		}
		got := x.calls()
		for name, e := range got.e {
			if e != api.OK && !got.isZero(name) {
				t.Errorf("%s of %v has a result beside the error %d", name, x, e)
			}
		}
	}
}

// spare returns a list with spare capacity, in which nothing may be written either.
func spare[T any](l ...T) []T { return append(make([]T, 0, 20), l...) }

// isSpare tells whether a list and its spare capacity are as they were.
func isSpare[T comparable](l, want []T) bool { return slices.Equal(l[:20], spare(want...)[:20]) }

// TestMemory changes results, and looks at the arguments and at other results.
func TestMemory(t *testing.T) {
	d, second := []int{-3, 1, 2, 1}, []int{0, 1, 9, 0}
	for _, s := range [][]int{{0, 0, 1, 2}, {0, 0, 0, 1}, {0, 0, 0, 0}, {0, 2, 3, 4}, {0, 1, 2, 3}, {0, 3, 4, 5}, {0, 1, 0, 0}} {
		x := arguments{edges(4, spare(looped().Edges...)...), 0, spare(d...), spare(s...), spare(second...)}
		first, second := x.calls(), x.calls()
		before := fmt.Sprint(second)
		for _, list := range first.lists {
			for i := range list {
				list[i] = 99
			}
			_ = append(list, 99, 99)
		}
		if now := fmt.Sprint(second); now != before {
			t.Errorf("%s changes to %s with another result", before, now)
		}
		if again := fmt.Sprint(x.calls()); again != before {
			t.Errorf("%s instead of %s", again, before)
		}
		if !isSpare(x.g.Edges, looped().Edges) || !isSpare(x.d, d) || !isSpare(x.s, s) || !isSpare(x.t, []int{0, 1, 9, 0}) {
			t.Errorf("the arguments are now %v", x)
		}
	}
}
