package orientation_test

import (
	"fmt"
	"math"
	"math/rand"
	"slices"
	"testing"

	"sandpile/api"
	"sandpile/graph"
	"sandpile/orientation"
)

// Tests of P14.3, and of P1 for package orientation.

func TestSums(t *testing.T) {
	for _, x := range samples() {
		sum, degree := 0, 0
		for _, n := range must[[]int](t)(orientation.Indegrees(x.g, x.o)) {
			sum += n
		}
		for _, chips := range must[api.Divisor](t)(orientation.Divisor(x.g, x.o)) {
			degree += chips
		}
		if size := must[int](t)(graph.Size(x.g)); sum != size || degree != size-x.g.N {
			t.Errorf("%v: the indegrees add up to %d, and the degree is %d", x, sum, degree)
		}
	}
}

func TestOrdersAreAcyclic(t *testing.T) {
	r := rand.New(rand.NewSource(57))
	for _, g := range append(small(), large()...) {
		loopless := must[api.Graph](t)(graph.Loopless(g))
		for range 3 {
			o := must[[]bool](t)(orientation.Order(loopless, r.Perm(g.N)))
			if is, _, e := orientation.Acyclic(loopless, o); !is || e != api.OK {
				t.Errorf("%v of an order in %v is acyclic: %t beside the error %d", o, loopless, is, e)
			}
		}
	}
	for _, x := range samples() {
		is, order, e := orientation.Acyclic(x.g, x.o)
		if !is {
			continue
		}
		o, fault := orientation.Order(x.g, order)
		agrees(t, "Order", []any{x, order}, o, fault, x.o, e)
	}
}

func TestReverseTwice(t *testing.T) {
	r := rand.New(rand.NewSource(58))
	for _, x := range samples() {
		set := r.Perm(len(x.o))[:r.Intn(len(x.o)+1)]
		once := must[[]bool](t)(orientation.Reverse(x.g, x.o, set))
		twice, e := orientation.Reverse(x.g, once, set)
		agrees(t, "Reverse twice", []any{x, set}, twice, e, x.o, api.OK)
	}
}

// TestCutsMoveIndegrees reverses the cuts of directed sets.
func TestCutsMoveIndegrees(t *testing.T) {
	moved := 0
	for _, x := range samples() {
		if x.g.N > 5 {
			continue
		}
		before := must[[]int](t)(orientation.Indegrees(x.g, x.o))
		for mask := range 1 << x.g.N {
			set := bits(mask)
			if must[int](t)(orientation.Directed(x.g, x.o, set)) != 1 {
				continue
			}
			moved++
			cut := must[[]int](t)(graph.Cut(x.g, set))
			behind := must[[]bool](t)(orientation.Reverse(x.g, x.o, cut))
			if way := must[int](t)(orientation.Directed(x.g, behind, set)); way != -1 {
				t.Errorf("%v: the cut of %v leads to %d when it is reversed", x, set, way)
			}
			of := ends(x.g)
			for v, n := range must[[]int](t)(orientation.Indegrees(x.g, behind)) {
				at := 0
				for _, i := range cut {
					if slices.Contains(of[i][:], v) {
						at++
					}
				}
				if mask>>v&1 == 0 {
					at = -at
				}
				if n != before[v]+at {
					t.Errorf("%v: behind reversing the cut of %v %d single edges lead to %d, before %d", x, set, n, v, before[v])
				}
			}
		}
	}
	if moved < 100 {
		t.Errorf("only %d sets are directed", moved)
	}
}

func TestSameIndegrees(t *testing.T) {
	for _, g := range small() {
		first := map[string][]bool{}
		for _, o := range must[[][]bool](t)(orientation.All(g)) {
			key := fmt.Sprint(must[[]int](t)(orientation.Indegrees(g, o)))
			if first[key] == nil {
				first[key] = o
			}
			if !must[bool](t)(orientation.Equivalent(g, first[key], o)) {
				t.Errorf("%v and %v have the indegrees %s in %v, but are not equivalent", first[key], o, key, g)
			}
		}
	}
}

// TestTotal calls every function with all kinds of arguments: a panic fails the test, and beside an error everything is zero.
func TestTotal(t *testing.T) {
	r := rand.New(rand.NewSource(59))
	ints := []int{math.MinInt, -1, 0, 0, 0, 1, 1, 2, 2, 3, 4, 5, 11, 12, 13, 50, 51, math.MaxInt}
	any := func() int { return ints[r.Intn(len(ints))] }
	list := func() []int {
		var l []int
		for range r.Intn(5) {
			l = append(l, any())
		}
		return l
	}
	right := append(small(), large()...)
	for range 20000 {
		g := right[r.Intn(160)]
		if r.Intn(3) == 0 {
			g = edges(any())
			for range r.Intn(4) {
				g.Edges = append(g.Edges, edge(any(), any(), any()))
			}
		}
		x := arguments{g, chance(r, r.Intn(8)), chance(r, r.Intn(8)), list(), list(), list(), any()}
		if n, err := graph.Size(g); err == api.OK && r.Intn(3) > 0 {
			x.o, x.p = chance(r, n), chance(r, n)
		}
		if r.Intn(2) == 0 {
			x.order = r.Perm(max(0, min(g.N, 13)))
		}
		got := x.calls()
		for name, e := range got.e {
			if e != api.OK && !got.isZero(name) {
				t.Errorf("%s of %v has a result beside the error %d", name, x, e)
			}
		}
	}
}

// TestMemory changes results, and looks at the arguments and at other results.
func TestMemory(t *testing.T) {
	// The arguments have spare capacity, in which nothing may be written either.
	l := []api.Edge{edge(0, 1, 2), edge(0, 2, 1), edge(1, 2, 1)}
	for _, o := range listed(4) {
		x := arguments{edges(3, append(make([]api.Edge, 0, 20), l...)...), append(make([]bool, 0, 20), o...), append(make([]bool, 0, 20), true, false, true, false), append(make([]int, 0, 20), 0, 2), append(make([]int, 0, 20), 3, 1), append(make([]int, 0, 20), 2, 0, 1), 1}
		first, second := x.calls(), x.calls()
		before := fmt.Sprint(second)
		for _, lists := range first.bools {
			for i, l := range lists {
				rest := fmt.Sprint(lists[i+1:])
				for j := range l {
					l[j] = !l[j]
				}
				_ = append(l, true, true, true)
				if fmt.Sprint(lists[i+1:]) != rest {
					t.Errorf("%v changes with another orientation", lists)
				}
			}
		}
		for _, l := range first.ints {
			for j := range l {
				l[j] = 99
			}
			_ = append(l, 99, 99, 99)
		}
		if now := fmt.Sprint(second); now != before {
			t.Errorf("%s changes to %s with another result", before, now)
		}
		if again := fmt.Sprint(x.calls()); again != before {
			t.Errorf("%s instead of %s", again, before)
		}
		if !slices.Equal(x.g.Edges, l) || !slices.Equal(x.g.Edges[3:20], make([]api.Edge, 17)) || !slices.Equal(x.o[:20], append(slices.Clone(o), make([]bool, 16)...)) || !slices.Equal(x.p[:20], append([]bool{true, false, true, false}, make([]bool, 16)...)) {
			t.Errorf("the arguments are now %v, %v and %v", x.g.Edges[:20], x.o[:20], x.p[:20])
		}
		if !slices.Equal(x.set[:20], append([]int{0, 2}, make([]int, 18)...)) || !slices.Equal(x.reversed[:20], append([]int{3, 1}, make([]int, 18)...)) || !slices.Equal(x.order[:20], append([]int{2, 0, 1}, make([]int, 17)...)) {
			t.Errorf("the arguments are now %v, %v and %v", x.set[:20], x.reversed[:20], x.order[:20])
		}
	}
}
