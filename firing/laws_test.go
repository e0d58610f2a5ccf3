package firing_test

import (
	"fmt"
	"math"
	"math/rand"
	"slices"
	"testing"

	"sandpile/api"
	"sandpile/chips"
	"sandpile/firing"
	"sandpile/graph"
	"sandpile/laplacian"
)

// Tests of P18.3, and of P1 for package firing.

func TestDegree(t *testing.T) {
	r := rand.New(rand.NewSource(81))
	for _, g := range samples() {
		d, s := some(r, g.N, 1000), some(r, g.N, 300)
		degree := must[int](t)(chips.Degree(d))
		behind := []api.Divisor{must[api.Divisor](t)(firing.Apply(g, d, s))}
		for v := range g.N {
			behind = append(behind, must[api.Divisor](t)(firing.Fire(g, d, v)), must[api.Divisor](t)(firing.Borrow(g, d, v)))
		}
		for _, set := range sets(r, g.N) {
			behind = append(behind, must[api.Divisor](t)(firing.FireSet(g, d, set)))
		}
		for _, x := range behind {
			if n := must[int](t)(chips.Degree(x)); n != degree {
				t.Errorf("%v on %v has the degree %d, %v has %d", d, g, degree, x, n)
			}
		}
		if n := must[int](t)(chips.Degree(must[api.Divisor](t)(firing.Change(g, s)))); n != 0 {
			t.Errorf("%v on %v changes the degree %d", s, g, n)
		}
	}
}

// TestScriptsAddUp also compares what scripts change with their images.
func TestScriptsAddUp(t *testing.T) {
	r := rand.New(rand.NewSource(82))
	for _, g := range samples() {
		d, first, second := some(r, g.N, 1000), some(r, g.N, 200), some(r, g.N, 200)
		apply := func(d api.Divisor, s []int) api.Divisor {
			return must[api.Divisor](t)(firing.Apply(g, d, api.Script(s)))
		}
		both := must[api.Divisor](t)(chips.Add(first, second))
		one, other, sum := apply(apply(d, first), second), apply(apply(d, second), first), apply(d, both)
		if !slices.Equal(one, other) || !slices.Equal(one, sum) {
			t.Errorf("%v, %v and %v behind %v and %v on %v", one, other, sum, first, second, g)
		}
		change := must[api.Divisor](t)(firing.Change(g, first))
		if image := must[api.Divisor](t)(laplacian.Image(g, first)); !slices.Equal(change, must[api.Divisor](t)(chips.Neg(image))) {
			t.Errorf("%v on %v changes %v, and has the image %v", first, g, change, image)
		}
		if added := must[api.Divisor](t)(chips.Add(d, change)); !slices.Equal(added, apply(d, first)) {
			t.Errorf("%v on %v changes %v", first, g, change)
		}
	}
}

func TestSetsOfScripts(t *testing.T) {
	r := rand.New(rand.NewSource(83))
	for _, g := range samples() {
		d, s := some(r, g.N, 1000), some(r, g.N, 9)
		want, behind := must[api.Divisor](t)(firing.Apply(g, d, s)), api.Divisor(d)
		var before []int
		for _, set := range must[[][]int](t)(firing.Sets(g, s)) {
			if len(set) == 0 || len(set) == g.N || graph.Subset(g, set) != api.OK {
				t.Errorf("%v is one of the sets of %v", set, s)
			}
			for _, v := range before {
				if !slices.Contains(set, v) {
					t.Errorf("%v comes before %v", before, set)
				}
			}
			behind, before = must[api.Divisor](t)(firing.FireSet(g, behind, set)), set
		}
		if !slices.Equal(behind, want) {
			t.Errorf("the sets of %v lead from %v to %v on %v, want %v", s, d, behind, g, want)
		}
	}
}

func TestUndoing(t *testing.T) {
	r := rand.New(rand.NewSource(84))
	for _, g := range samples() {
		d := api.Divisor(some(r, g.N, 1000))
		for v := range g.N {
			behind := must[api.Divisor](t)(firing.Borrow(g, must[api.Divisor](t)(firing.Fire(g, d, v)), v))
			again := must[api.Divisor](t)(firing.Fire(g, must[api.Divisor](t)(firing.Borrow(g, d, v)), v))
			if !slices.Equal(behind, d) || !slices.Equal(again, d) {
				t.Errorf("%d leads from %v to %v and %v on %v", v, d, behind, again, g)
			}
		}
		for _, set := range sets(r, g.N) {
			behind := must[api.Divisor](t)(firing.FireSet(g, d, set))
			for v := range g.N {
				if !slices.Contains(set, v) {
					behind = must[api.Divisor](t)(firing.Fire(g, behind, v))
				}
			}
			if !slices.Equal(behind, d) {
				t.Errorf("%v and all other vertices lead from %v to %v on %v", set, d, behind, g)
			}
		}
	}
}

// TestOrderOfMoves plays legal moves, and applies how often each vertex occurs.
func TestOrderOfMoves(t *testing.T) {
	r := rand.New(rand.NewSource(85))
	for _, g := range samples() {
		d := api.Divisor(some(r, g.N, 100))
		d[r.Intn(g.N)] += 2000
		var moves []int
		behind := slices.Clone(d)
		for range 200 {
			v := r.Intn(g.N)
			if must[bool](t)(firing.Legal(g, behind, v)) {
				moves, behind = append(moves, v), must[api.Divisor](t)(firing.Fire(g, behind, v))
			}
		}
		got, n, e := firing.Play(g, d, moves)
		agreesPlay(t, []any{g, d, moves}, got, n, e, behind, len(moves), api.OK)
		script := must[api.Script](t)(firing.Count(g, moves))
		if applied := must[api.Divisor](t)(firing.Apply(g, d, script)); !slices.Equal(applied, behind) {
			t.Errorf("%v on %v leads from %v to %v, want %v", script, g, d, applied, behind)
		}
	}
}

// TestTotal calls every function with all kinds of arguments: a panic fails the test, and beside an error everything is zero.
func TestTotal(t *testing.T) {
	r := rand.New(rand.NewSource(86))
	ints := []int{math.MinInt, -most - 1, -most, -2, -1, 0, 0, 0, 1, 1, 1, 2, 3, 4, 5, 11, 12, 13, 50, most, most + 1, math.MaxInt}
	any := func() int { return ints[r.Intn(len(ints))] }
	right := samples()
	list := func(n int) []int {
		if r.Intn(2) == 0 {
			return some(r, n, 1+r.Intn(most))
		}
		l := make([]int, r.Intn(6))
		for i := range l {
			l[i] = any()
		}
		return l
	}
	for range 20000 {
		g := right[r.Intn(len(right))]
		if r.Intn(4) == 0 {
			g = edges(any())
			for range r.Intn(4) {
				g.Edges = append(g.Edges, edge(any(), any(), any()))
			}
		}
		n := max(0, min(g.N, 13))
		x := arguments{g, list(n), list(n), any(), list(2), list(3)}
		got := x.calls()
		for name, e := range got.e {
			if e != api.OK && !got.isZero(name) {
				t.Errorf("%s of %v has a result beside the error %d", name, x, e)
			}
		}
	}
}

// TestMemory changes results, and looks at the arguments and at other results.
func TestMemory(t *testing.T) {
	l := looped().Edges
	// The arguments have spare capacity, in which nothing may be written either.
	spare := func(l ...int) []int { return append(make([]int, 0, 20), l...) }
	for v := range 5 {
		for _, moves := range [][]int{nil, {v % 4}, {0, 1, 2}} {
			x := arguments{edges(5, append(make([]api.Edge, 0, 20), l...)...), spare(5, 6, 7, 8, 9), spare(3, v, 2, 1, 0), v, spare(v), spare(moves...)}
			first, second := x.calls(), x.calls()
			before := fmt.Sprint(second)
			for _, list := range append(slices.Clone(first.sets), first.lists["Change"], first.lists["Apply"], first.lists["Fire"], first.lists["Borrow"], first.lists["FireSet"], first.lists["Play"], first.lists["Count"]) {
				for i := range list {
					list[i] = 99
				}
				_ = append(list, 99, 99)
			}
			if now := fmt.Sprint(second); now != before {
				t.Errorf("%s changes to %s with another result", before, now)
			}
			if again := fmt.Sprint(x.calls()); again != before {
				t.Errorf("%s instead of %s", again, before)
			}
			if !slices.Equal(x.g.Edges, l) || !slices.Equal(x.g.Edges[7:20], make([]api.Edge, 13)) {
				t.Errorf("the graph is now %v", x.g.Edges[:20])
			}
			for _, y := range [][2][]int{{x.d, {5, 6, 7, 8, 9}}, {x.s, {3, v, 2, 1, 0}}, {x.set, {v}}, {x.moves, moves}} {
				if n := len(y[1]); !slices.Equal(y[0], y[1]) || !slices.Equal(y[0][n:20], make([]int, 20-n)) {
					t.Errorf("%v is now %v", y[1], y[0][:20])
				}
			}
		}
	}
}

// TestMemoryOfSets changes a set of a result, and looks at the others of it.
func TestMemoryOfSets(t *testing.T) {
	for _, s := range []api.Script{{2, 1, 0}, {5, 0, 0}, {9, 3, 9}} {
		l := must[[][]int](t)(firing.Sets(triangle(), s))
		before := must[[][]int](t)(firing.Sets(triangle(), s))
		for i, set := range l {
			for k := range set {
				set[k] = 99
			}
			_ = append(set, 99, 99, 99)
			if !slices.EqualFunc(l[i+1:], before[i+1:], slices.Equal) {
				t.Errorf("sets of %v share their memory", s)
			}
		}
	}
}
