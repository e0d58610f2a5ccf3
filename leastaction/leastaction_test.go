package leastaction_test

import (
	"math"
	"math/rand"
	"slices"
	"testing"

	"sandpile/api"
	"sandpile/leastaction"
	"sandpile/stabilize"
)

// Tests of P22.1, and of the errors that all functions return first.

// TestFirstErrors calls the functions with what stabilize.Check does not accept: this error comes before those of scripts.
func TestFirstErrors(t *testing.T) {
	zero := api.Divisor{0, 0, 0}
	for _, x := range []struct {
		g api.Graph
		q int
		d api.Divisor
		e api.Errno
	}{
		{api.Graph{}, 0, nil, api.ErrRange}, {edges(13), 0, make(api.Divisor, 13), api.ErrRange}, {edges(math.MinInt), 0, nil, api.ErrRange}, {edges(3, edge(0, 3, 1)), 0, zero, api.ErrRange}, {edges(3, edge(0, 1, 51)), 0, zero, api.ErrRange}, {edges(3, edge(1, 0, 1)), 0, zero, api.ErrOrder}, {edges(3, edge(0, 1, 1), edge(0, 1, 1)), 9, nil, api.ErrOrder},
		{edges(2), 0, api.Divisor{0, 0}, api.ErrParted}, {edges(3, edge(0, 1, 1)), 9, nil, api.ErrParted}, {edges(3, edge(1, 2, 1)), 0, api.Divisor{-1, -1, -1}, api.ErrParted},
		{triangle(), -1, zero, api.ErrRange}, {triangle(), 3, nil, api.ErrRange}, {triangle(), math.MaxInt, zero, api.ErrRange},
		{triangle(), 0, nil, api.ErrShape}, {triangle(), 0, api.Divisor{0, 0}, api.ErrShape}, {triangle(), 0, api.Divisor{0, -1, 0, 0}, api.ErrShape}, {triangle(), 0, api.Divisor{0, most + 1, 0}, api.ErrRange}, {triangle(), 0, api.Divisor{-most - 1, 0, 0}, api.ErrRange}, {triangle(), 0, api.Divisor{0, math.MaxInt, 0}, api.ErrRange},
		{triangle(), 0, api.Divisor{0, -1, 0}, api.ErrRange}, {triangle(), 2, api.Divisor{-1, 0, 0}, api.ErrRange}, {triangle(), 1, api.Divisor{most, most, -most}, api.ErrRange},
	} {
		for _, s := range []api.Script{nil, {0}, {0, 0, 0}, {5, -1, 0}, {0, most + 1, 0}, {0, most, most}, make(api.Script, 5000)} {
			arguments{x.g, x.q, x.d, s, s}.calls().expect(t, withSink(), []any{x.g, x.q, x.d, len(s)}, x.e)
		}
	}
}

// TestScriptErrors calls the functions with lists that are no scripts.
func TestScriptErrors(t *testing.T) {
	for e, l := range outOfRange() {
		for _, s := range l {
			for _, d := range []api.Divisor{{0, 0, 0}, {-most, 2, 1}, {most, most, most}} {
				arguments{triangle(), 0, d, s, s}.calls().expect(t, append(withSink(), "Meet"), []any{d, s}, e)
			}
		}
	}
	// The range of scripts is that of chips.
	for _, s := range []api.Script{{0, most, 0}, {0, 0, most}, {0, most, most}} {
		arguments{triangle(), 0, api.Divisor{0, 0, 0}, s, s}.calls().expect(t, []string{"Stabilizing", "Meet"}, s, api.OK)
	}
}

// someScripts returns random scripts: any ones, stabilizing ones, and such with one firing more or less.
func someScripts(r *rand.Rand, g api.Graph, q int, d api.Divisor) []api.Script {
	free, negative := make(api.Script, g.N), make(api.Script, g.N)
	for v := range free {
		free[v], negative[v] = r.Intn(9), r.Intn(9)-4
	}
	free[q] = 0
	right := someStabilizing(r, g, q, d, 6)
	l := []api.Script{make(api.Script, g.N), free, negative, right, plus(free, 1, q), plus(right, 1, q), plus(right, -1, q)}
	for v := range g.N {
		l = append(l, plus(right, 1, v), plus(right, -1, v))
	}
	return l
}

func TestStabilizing(t *testing.T) {
	r := rand.New(rand.NewSource(231))
	found := map[bool]int{}
	for _, g := range samples(api.MaxVertices) {
		for range 4 {
			q := r.Intn(g.N)
			d := some(r, g, q, 50)
			for _, s := range someScripts(r, g, q, d) {
				want := stabilizing(g, q, d, s)
				is, e := leastaction.Stabilizing(g, q, d, s)
				agreesTruth(t, "Stabilizing", []any{g, q, d, s}, is, e, want, api.OK)
				found[want]++
			}
		}
	}
	if found[true] < 500 || found[false] < 500 {
		t.Errorf("the scripts are stabilizing: %v", found)
	}
}

// TestWitness looks at all sets of vertices. What is not stabilizing has no witness.
func TestWitness(t *testing.T) {
	r := rand.New(rand.NewSource(232))
	none, several, all := 0, 0, 0
	for _, g := range samples(6) {
		for range 4 {
			q := r.Intn(g.N)
			d := some(r, g, q, 50)
			for _, s := range someScripts(r, g, q, d) {
				what := []any{g, q, d, s}
				set, e := leastaction.Witness(g, q, d, s)
				if !stabilizing(g, q, d, s) {
					agrees(t, "Witness", what, set, e, nil, api.ErrState)
					continue
				}
				l, want := removable(g, q, d, s)
				agrees(t, "Witness", what, set, e, want, api.OK)
				if len(l) == 0 {
					none++
				}
				if len(l) > 1 {
					several++
					// The union is one of the sets, too.
					if !slices.ContainsFunc(l, func(set []int) bool { return slices.Equal(set, want) }) {
						t.Errorf("%v cannot be taken away from %s, but %v can", want, short(what), l)
					}
				}
				if len(want) == g.N-1 && g.N > 1 {
					all++
				}
			}
		}
	}
	if none < 100 || several < 100 || all < 100 {
		t.Errorf("no set can be taken away %d times, several ones %d times, and all vertices but the sink %d times", none, several, all)
	}
}

func TestVerify(t *testing.T) {
	r := rand.New(rand.NewSource(233))
	found := map[api.Errno]int{}
	for _, g := range samples(api.MaxVertices) {
		for range 4 {
			q := r.Intn(g.N)
			d := some(r, g, q, 50)
			_, odometer, e := stabilize.Stabilize(g, q, d)
			if e != api.OK {
				t.Fatalf("%v on %v with the sink %d: error %d", d, g, q, e)
			}
			for _, s := range append(someScripts(r, g, q, d), odometer) {
				want := api.ErrProof
				if slices.Equal(s, odometer) {
					want = api.OK
				}
				if e := leastaction.Verify(g, q, d, s); e != want {
					t.Errorf("%v on %v with the sink %d is verified to have the odometer %v: error %d, want %d", d, g, q, s, e, want)
				}
				found[want]++
			}
		}
	}
	if found[api.OK] < 300 || found[api.ErrProof] < 1000 {
		t.Errorf("the errors are %v", found)
	}
}

// claim is a script with what is known of it: whether it is stabilizing, and the greatest set that can be taken away from it.
type claim struct {
	g   api.Graph
	q   int
	d   api.Divisor
	s   api.Script
	is  bool
	set []int
}

func (x claim) check(t *testing.T) {
	t.Helper()
	what := []any{x.g, x.q, x.d, x.s}
	is, e := leastaction.Stabilizing(x.g, x.q, x.d, x.s)
	agreesTruth(t, "Stabilizing", what, is, e, x.is, api.OK)
	set, e := leastaction.Witness(x.g, x.q, x.d, x.s)
	if x.is {
		agrees(t, "Witness", what, set, e, x.set, api.OK)
	} else {
		agrees(t, "Witness", what, set, e, nil, api.ErrState)
	}
	want := api.OK
	if !x.is || len(x.set) > 0 {
		want = api.ErrProof
	}
	if e := leastaction.Verify(x.g, x.q, x.d, x.s); e != want {
		t.Errorf("Verify of %s has the error %d, want %d", short(what), e, want)
	}
}

func TestClaimsByHand(t *testing.T) {
	d := api.Divisor{0, 2, 1}
	for _, x := range []claim{
		{triangle(), 0, d, api.Script{0, 1, 1}, true, nil}, {triangle(), 0, d, api.Script{0, 2, 2}, true, []int{1, 2}}, {triangle(), 0, d, api.Script{0, 1, 0}, false, nil}, {triangle(), 0, d, api.Script{0, 3, 2}, true, []int{1, 2}}, {triangle(), 0, d, api.Script{0, 2, 1}, true, []int{1}},
		// Scripts that are negative somewhere, or not 0 at the sink, also if the chips behind them are stable.
		{triangle(), 0, d, api.Script{1, 2, 2}, false, nil}, {triangle(), 0, d, api.Script{-1, 0, 0}, false, nil}, {triangle(), 0, d, api.Script{-9, 1, 1}, false, nil}, {triangle(), 0, api.Divisor{0, 0, 0}, api.Script{0, -1, 0}, false, nil}, {triangle(), 0, api.Divisor{5, 0, 0}, api.Script{0, -1, 3}, false, nil}, {fork(), 0, api.Divisor{0, 0, 0}, api.Script{0, 0, -1}, false, nil}, {edges(1), 0, api.Divisor{0}, api.Script{1}, false, nil}, {edges(1), 0, api.Divisor{0}, api.Script{-1}, false, nil},
		// The script 0 on what is stable, and what is not.
		{triangle(), 0, api.Divisor{9, 1, 1}, api.Script{0, 0, 0}, true, nil}, {triangle(), 0, api.Divisor{-9, 0, 0}, api.Script{0, 0, 0}, true, nil}, {triangle(), 0, api.Divisor{0, 2, 0}, api.Script{0, 0, 0}, false, nil}, {triangle(), 0, api.Divisor{0, 0, 2}, api.Script{0, 0, 0}, false, nil}, {edges(1), 0, api.Divisor{most}, api.Script{0}, true, nil}, {edges(1, edge(0, 0, 5)), 0, api.Divisor{-most}, api.Script{0}, true, nil},
		// Each of {1} and {2} can be taken away, or one of them; in the end {1}, and both together, but not {2}.
		{fork(), 0, api.Divisor{0, 0, 0}, api.Script{0, 1, 1}, true, []int{1, 2}}, {fork(), 0, api.Divisor{0, 1, 0}, api.Script{0, 1, 1}, true, []int{2}}, {fork(), 0, api.Divisor{0, 1, 0}, api.Script{0, 2, 1}, true, []int{1, 2}}, {fork(), 0, api.Divisor{0, 1, 3}, api.Script{0, 1, 3}, true, nil}, {triangle(), 0, api.Divisor{0, 0, 0}, api.Script{0, 2, 1}, true, []int{1, 2}},
		// Only both together can be taken away, or neither.
		{triangle(), 0, api.Divisor{0, 1, 1}, api.Script{0, 1, 1}, true, []int{1, 2}}, {triangle(), 0, api.Divisor{0, 2, 1}, api.Script{0, 5, 5}, true, []int{1, 2}}, {triangle(), 0, api.Divisor{0, 1, 2}, api.Script{0, 1, 1}, true, nil},
		// Debts, and more chips than there may be: at the sink they do not matter.
		{pair(1), 0, api.Divisor{0, 0}, api.Script{0, most}, true, []int{1}}, {pair(50), 0, api.Divisor{most, 0}, api.Script{0, most}, true, []int{1}}, {pair(50), 0, api.Divisor{most, 99}, api.Script{0, 1}, true, nil}, {pair(1), 0, api.Divisor{most, most}, api.Script{0, most}, true, nil}, {pair(1), 0, api.Divisor{most, most}, api.Script{0, most - 1}, false, nil}, {fork(), 0, api.Divisor{0, most, 1}, api.Script{0, most, 1}, true, nil}, {fork(), 0, api.Divisor{most, most, most}, api.Script{0, most, most}, true, nil},
		{triangle(), 0, api.Divisor{0, 0, 0}, api.Script{0, most, 0}, false, nil}, {full(12, 50), 3, make(api.Divisor, 12), append(api.Script{most}, make(api.Script, 11)...), false, nil}, {full(12, 50), 0, make(api.Divisor, 12), append(api.Script{0}, slices.Repeat([]int{most}, 11)...), true, []int{1, 2, 3, 4, 5, 6, 7, 8, 9, 10, 11}},
		// Loops do not matter, parallel edges do.
		{looped(), 0, api.Divisor{0, 0, 0, 1}, api.Script{0, 0, 0, 1}, true, nil}, {looped(), 0, api.Divisor{0, 0, 0, 1}, api.Script{0, 0, 0, 0}, false, nil}, {looped(), 3, api.Divisor{3, 2, 2, 0}, api.Script{3, 3, 2, 0}, true, nil}, {looped(), 3, api.Divisor{3, 2, 2, 0}, api.Script{4, 4, 3, 0}, true, []int{0, 1, 2}}, {looped(), 3, api.Divisor{3, 2, 2, 0}, api.Script{4, 3, 2, 0}, false, nil}, {pair(3), 0, api.Divisor{0, 3}, api.Script{0, 1}, true, nil}, {pair(3), 0, api.Divisor{0, 2}, api.Script{0, 1}, true, []int{1}},
	} {
		x.check(t)
	}
}
