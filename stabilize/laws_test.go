package stabilize_test

import (
	"fmt"
	"math"
	"math/rand"
	"slices"
	"testing"

	"sandpile/api"
	"sandpile/chips"
	"sandpile/firing"
	"sandpile/stabilize"
)

// Tests of P19.3, and of P1 for package stabilize.

// TestOdometer applies odometers as scripts.
func TestOdometer(t *testing.T) {
	r := rand.New(rand.NewSource(196))
	for _, g := range samples() {
		for range 10 {
			q := r.Intn(g.N)
			d := some(r, g, q, 1000)
			stable, script, e := stabilize.Stabilize(g, q, d)
			if e != api.OK {
				t.Fatalf("%v on %v with the sink %d: error %d", d, g, q, e)
			}
			if script[q] != 0 || slices.Min(script) < 0 || !must[bool](t)(stabilize.Stable(g, q, stable)) {
				t.Errorf("%v on %v with the sink %d leads to %v by %v", d, g, q, stable, script)
			}
			applied, e := firing.Apply(g, d, script)
			agrees(t, "Apply", []any{g, d, script}, applied, e, stable, api.OK)
		}
	}
}

// below yields the scripts that are nowhere greater than another one, and not negative.
func below(s api.Script, yield func(api.Script)) {
	less := make(api.Script, len(s))
	for {
		yield(less)
		v := 0
		for v < len(s) && less[v] == s[v] {
			less[v] = 0
			v++
		}
		if v == len(s) {
			return
		}
		less[v]++
	}
}

// TestOdometerIsLeast applies all scripts that are nowhere greater than odometers.
func TestOdometerIsLeast(t *testing.T) {
	r := rand.New(rand.NewSource(197))
	tried := 0
	for _, g := range samples() {
		for range 6 {
			q := r.Intn(g.N)
			d := some(r, g, q, 15)
			_, script, e := stabilize.Stabilize(g, q, d)
			scripts := 1
			for _, times := range script {
				scripts *= times + 1
				if scripts > 3000 {
					break
				}
			}
			if e != api.OK || scripts > 3000 {
				continue
			}
			below(script, func(less api.Script) {
				behind := must[api.Divisor](t)(firing.Apply(g, d, less))
				stabilizes := stabilize.Check(g, q, behind) == api.OK && must[bool](t)(stabilize.Stable(g, q, behind))
				if stabilizes != slices.Equal(less, script) {
					t.Errorf("%v leads from %v to %v on %v with the sink %d, and the odometer is %v", less, d, behind, g, q, script)
				}
				tried++
			})
		}
	}
	if tried < 10000 {
		t.Errorf("%d scripts are tried", tried)
	}
}

// TestAnyOrder fires unstable vertices in any order.
func TestAnyOrder(t *testing.T) {
	r := rand.New(rand.NewSource(198))
	for _, g := range samples() {
		q := r.Intn(g.N)
		d := some(r, g, q, 300)
		stable, script, e := stabilize.Stabilize(g, q, d)
		for _, choose := range []func(l []int) int{func(l []int) int { return l[len(l)-1] }, func(l []int) int { return l[r.Intn(len(l))] }} {
			want, moves, _ := toppled(g, q, d, choose)
			agrees(t, "Stabilize", []any{g, q, d}, stable, e, want, api.OK)
			agrees(t, "Stabilize, script,", []any{g, q, d}, script, e, count(g.N, moves), api.OK)
		}
	}
}

// TestSums stabilizes sums, and one part of them first.
func TestSums(t *testing.T) {
	r := rand.New(rand.NewSource(199))
	for _, g := range samples() {
		for range 6 {
			q := r.Intn(g.N)
			first, second := some(r, g, q, 300), some(r, g, q, 300)
			whole, script, e := stabilize.Stabilize(g, q, must[api.Divisor](t)(chips.Add(first, second)))
			part, before, _ := stabilize.Stabilize(g, q, first)
			again, after, error := stabilize.Stabilize(g, q, must[api.Divisor](t)(chips.Add(part, second)))
			agrees(t, "Stabilize", []any{g, q, first, second}, again, error, whole, e)
			agrees(t, "Stabilize, script,", []any{g, q, first, second}, api.Script(must[api.Divisor](t)(chips.Add(api.Divisor(before), api.Divisor(after)))), error, script, e)
		}
	}
}

// TestTopplingIsLegal plays what is toppled move by move.
func TestTopplingIsLegal(t *testing.T) {
	r := rand.New(rand.NewSource(200))
	played := 0
	for _, g := range samples() {
		for range 10 {
			q := r.Intn(g.N)
			d := some(r, g, q, 60)
			moves, e := stabilize.Topple(g, q, d)
			if e == api.ErrLimit {
				continue
			}
			stable, script, e := stabilize.Stabilize(g, q, d)
			behind, n, error := firing.Play(g, d, moves)
			if n != len(moves) || slices.Contains(moves, q) {
				t.Errorf("%v is toppled from %v on %v with the sink %d, and %d of it are legal", moves, d, g, q, n)
			}
			agrees(t, "Play", []any{g, d, moves}, behind, error, stable, e)
			agrees(t, "Count", []any{g, moves}, must[api.Script](t)(firing.Count(g, moves)), api.OK, script, api.OK)
			played += n
		}
	}
	if played < 20000 {
		t.Errorf("%d moves are played", played)
	}
}

// TestTotal calls every function with all kinds of arguments: a panic fails the test, and beside an error everything is zero.
func TestTotal(t *testing.T) {
	r := rand.New(rand.NewSource(201))
	ints := []int{math.MinInt, -most - 1, -most, -2, -1, 0, 0, 0, 1, 1, 1, 2, 3, 4, 5, 11, 12, 13, 50, most, most + 1, math.MaxInt}
	any := func() int { return ints[r.Intn(len(ints))] }
	right := samples()
	for range 4000 {
		g := right[r.Intn(len(right))]
		q := r.Intn(g.N)
		x := arguments{g, q, some(r, g, q, 1+r.Intn(most/100)), any()}
		if r.Intn(2) == 0 {
			x.q = any()
			x.d = make(api.Divisor, r.Intn(6))
			for v := range x.d {
				x.d[v] = any()
			}
		}
		if r.Intn(4) == 0 {
			x.g = edges(any())
			for range r.Intn(4) {
				x.g.Edges = append(x.g.Edges, edge(any(), any(), any()))
			}
		}
		got := x.calls()
		for name, e := range got.e {
			if e != api.OK && !got.isZero(name) {
				t.Errorf("%s of %v has a result beside the error %d", name, x, e)
			}
		}
	}
}

// TestMemory changes results, and looks at the arguments and at other results.
func TestMemory(t *testing.T) {
	l := looped().Edges
	// The arguments have spare capacity, in which nothing may be written either.
	spare := func(l ...int) []int { return append(make([]int, 0, 20), l...) }
	for _, d := range [][]int{{9, 8, 7, 6}, {0, 2, 2, 0}, {-3, 0, 0, 0}, {0, 1, 2, 0}} {
		for v := range 4 {
			x := arguments{edges(4, append(make([]api.Edge, 0, 20), l...)...), 0, spare(d...), v}
			first, second := x.calls(), x.calls()
			before := fmt.Sprint(second)
			for _, list := range first.lists {
				for i := range list {
					list[i] = 99
				}
				_ = append(list, 99, 99)
			}
			if now := fmt.Sprint(second); now != before {
				t.Errorf("%s changes to %s with another result", before, now)
			}
			if again := fmt.Sprint(x.calls()); again != before {
				t.Errorf("%s instead of %s", again, before)
			}
			if !slices.Equal(x.g.Edges, l) || !slices.Equal(x.g.Edges[6:20], make([]api.Edge, 14)) {
				t.Errorf("the graph is now %v", x.g.Edges[:20])
			}
			if !slices.Equal(x.d, d) || !slices.Equal(x.d[4:20], make([]int, 16)) {
				t.Errorf("%v is now %v", d, x.d[:20])
			}
		}
	}
}

// TestMemoryOfOneResult changes the divisor of a result, and looks at its script.
func TestMemoryOfOneResult(t *testing.T) {
	for _, d := range []api.Divisor{{0, 1, 1}, {0, 2, 1}} {
		stable, script, _ := stabilize.Stabilize(triangle(), 0, d)
		before := slices.Clone(script)
		for v := range stable {
			stable[v] = 99
		}
		_ = append(stable, 99, 99)
		if !slices.Equal(script, before) {
			t.Errorf("%v changes to %v", before, script)
		}
	}
}
