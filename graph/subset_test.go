package graph_test

import (
	"math"
	"math/rand"
	"slices"
	"testing"

	"sandpile/api"
	"sandpile/graph"
)

// Tests of P8.2.

// sets returns all sets of vertices of small graphs, and some of larger ones.
func sets(r *rand.Rand, g api.Graph) [][]int {
	var l [][]int
	masks := 1 << g.N
	for i := range min(masks, 40) {
		mask := i
		if masks > 40 && i > 1 {
			mask = r.Intn(masks)
		}
		var set []int
		for v := range g.N {
			if mask>>v&1 == 1 {
				set = append(set, v)
			}
		}
		l = append(l, set)
	}
	var all []int
	for v := range g.N {
		all = append(all, v)
	}
	return append(l, all)
}

// wrongSets returns lists that are no sets of vertices 0 to 3, and the errors.
func wrongSets() []struct {
	set []int
	e   api.Errno
} {
	return []struct {
		set []int
		e   api.Errno
	}{
		{[]int{-1}, api.ErrRange}, {[]int{4}, api.ErrRange}, {[]int{math.MinInt}, api.ErrRange}, {[]int{math.MaxInt}, api.ErrRange}, {[]int{0, 1, 2, 3, 4}, api.ErrRange}, {[]int{0, -1}, api.ErrRange},
		{[]int{1, 0}, api.ErrOrder}, {[]int{0, 0}, api.ErrOrder}, {[]int{0, 1, 1}, api.ErrOrder}, {[]int{0, 2, 1, 3}, api.ErrOrder}, {[]int{3, 3, 3, 3, 3}, api.ErrOrder},
		// The first element with an error counts.
		{[]int{1, 0, 4}, api.ErrOrder}, {[]int{4, 0, 0}, api.ErrRange}, {[]int{0, 4, 1}, api.ErrRange}, {[]int{2, 2, -1}, api.ErrOrder}, {[]int{2, -1, 2}, api.ErrRange}, {make([]int, 5000), api.ErrOrder},
	}
}

func TestSubset(t *testing.T) {
	r := rand.New(rand.NewSource(16))
	for _, g := range samples() {
		for _, set := range sets(r, g) {
			if e := graph.Subset(g, set); e != api.OK {
				t.Errorf("%v in %v has the error %d", set, g, e)
			}
			if e := graph.Subset(g, append(slices.Clone(set), g.N)); e != api.ErrRange {
				t.Errorf("%v and %d in %v have the error %d", set, g.N, g, e)
			}
		}
	}
	for _, g := range []api.Graph{example(), edges(4), full(4, 50)} {
		for _, x := range wrongSets() {
			if e := graph.Subset(g, x.set); e != x.e {
				t.Errorf("%.100v has the error %d, want %d", x.set, e, x.e)
			}
			cut, e := graph.Cut(g, x.set)
			agreesList(t, "Cut", cut, e, nil, x.e)
			induced, e := graph.Induced(g, x.set)
			agrees(t, "Induced", induced, e, api.Graph{}, x.e)
		}
	}
}

func TestCut(t *testing.T) {
	r := rand.New(rand.NewSource(17))
	for _, g := range samples() {
		ends := must[[][2]int](t)(graph.Ends(g))
		for _, set := range sets(r, g) {
			var want []int
			for i, x := range ends {
				if slices.Contains(set, x[0]) != slices.Contains(set, x[1]) {
					want = append(want, i)
				}
			}
			cut, e := graph.Cut(g, set)
			agreesList(t, "Cut", cut, e, want, api.OK)
		}
	}
	for _, x := range []struct {
		g         api.Graph
		set, want []int
	}{
		{example(), []int{0, 1}, []int{2, 3}}, {example(), nil, nil}, {example(), []int{}, nil}, {example(), []int{0, 1, 2, 3}, nil}, {example(), []int{2}, []int{3, 5}}, {example(), []int{0}, []int{0, 1, 2}}, {example(), []int{0, 2}, []int{0, 1, 2, 3, 5}}, {edges(1, api.Edge{Mult: 3}), []int{0}, nil}, {edges(2, api.Edge{Mult: 3}, api.Edge{B: 1, Mult: 2}, api.Edge{A: 1, B: 1, Mult: 4}), []int{1}, []int{3, 4}}, {edges(12), []int{3, 5}, nil},
	} {
		cut, e := graph.Cut(x.g, x.set)
		agreesList(t, "Cut", cut, e, x.want, api.OK)
	}
}

func TestInduced(t *testing.T) {
	r := rand.New(rand.NewSource(18))
	for _, g := range samples() {
		m := gridOf(g)
		for _, set := range sets(r, g) {
			if len(set) == 0 {
				continue
			}
			var part grid
			for i, v := range set {
				for j, w := range set {
					part[i][j] = m[v][w]
				}
			}
			induced, e := graph.Induced(g, set)
			agrees(t, "Induced", induced, e, part.graph(len(set)), api.OK)
		}
		for _, empty := range [][]int{nil, {}} {
			induced, e := graph.Induced(g, empty)
			agrees(t, "Induced", induced, e, api.Graph{}, api.ErrEmpty)
		}
	}
	for _, x := range []struct {
		set  []int
		want api.Graph
	}{
		{[]int{0, 1, 3}, edges(3, api.Edge{A: 0, B: 1, Mult: 2}, api.Edge{A: 0, B: 2, Mult: 1})}, {[]int{2}, edges(1, api.Edge{Mult: 1})}, {[]int{0}, edges(1)}, {[]int{1, 3}, edges(2)}, {[]int{2, 3}, edges(2, api.Edge{Mult: 1}, api.Edge{B: 1, Mult: 1})}, {[]int{0, 1, 2, 3}, example()},
	} {
		induced, e := graph.Induced(example(), x.set)
		agrees(t, "Induced", induced, e, x.want, api.OK)
	}
}

func TestRelabel(t *testing.T) {
	r := rand.New(rand.NewSource(19))
	for _, g := range samples() {
		m := gridOf(g)
		for range 5 {
			to := r.Perm(g.N)
			var moved grid
			for v := range g.N {
				for w := range g.N {
					moved[to[v]][to[w]] = m[v][w]
				}
			}
			got, e := graph.Relabel(g, to)
			agrees(t, "Relabel", got, e, moved.graph(g.N), api.OK)
		}
	}
	// The vertex 0 becomes 1, 1 becomes 2, 2 becomes 3, and 3 becomes 0.
	got, e := graph.Relabel(example(), []int{1, 2, 3, 0})
	agrees(t, "Relabel", got, e, edges(4, api.Edge{A: 0, B: 1, Mult: 1}, api.Edge{A: 0, B: 3, Mult: 1}, api.Edge{A: 1, B: 2, Mult: 2}, api.Edge{A: 2, B: 3, Mult: 1}, api.Edge{A: 3, B: 3, Mult: 1}), api.OK)
	got, e = graph.Relabel(edges(1, api.Edge{Mult: 4}), []int{0})
	agrees(t, "Relabel", got, e, edges(1, api.Edge{Mult: 4}), api.OK)
}

func TestRelabelErrors(t *testing.T) {
	for _, x := range []struct {
		to []int
		e  api.Errno
	}{
		{nil, api.ErrShape}, {[]int{}, api.ErrShape}, {[]int{0, 1, 2}, api.ErrShape}, {[]int{0, 1, 2, 3, 4}, api.ErrShape}, {[]int{0, 1, 2, 3, 0}, api.ErrShape}, {[]int{9, 9, 9}, api.ErrShape}, {make([]int, 5000), api.ErrShape},
		{[]int{0, 1, 2, 4}, api.ErrRange}, {[]int{-1, 1, 2, 3}, api.ErrRange}, {[]int{0, math.MaxInt, 1, 2}, api.ErrRange}, {[]int{0, math.MinInt, 1, 2}, api.ErrRange}, {[]int{4, 4, 4, 4}, api.ErrRange},
		{[]int{0, 1, 2, 0}, api.ErrTwice}, {[]int{3, 3, 1, 2}, api.ErrTwice}, {[]int{0, 0, 0, 0}, api.ErrTwice}, {[]int{1, 2, 3, 3}, api.ErrTwice},
		// The first element with an error counts.
		{[]int{0, 0, 4, 1}, api.ErrTwice}, {[]int{0, 4, 0, 1}, api.ErrRange}, {[]int{0, 1, 0, -1}, api.ErrTwice}, {[]int{0, 1, -1, 0}, api.ErrRange},
	} {
		for _, g := range []api.Graph{example(), edges(4), full(4, 50)} {
			got, e := graph.Relabel(g, x.to)
			agrees(t, "Relabel", got, e, api.Graph{}, x.e)
		}
	}
}

func TestLooplessAndSimple(t *testing.T) {
	for _, g := range samples() {
		m := gridOf(g)
		single := m
		for v := range g.N {
			m[v][v], single[v][v] = 0, 0
			for w := range g.N {
				single[v][w] = min(single[v][w], 1)
			}
		}
		got, e := graph.Loopless(g)
		agrees(t, "Loopless", got, e, m.graph(g.N), api.OK)
		got, e = graph.Simple(g)
		agrees(t, "Simple", got, e, single.graph(g.N), api.OK)
	}
	got, e := graph.Loopless(example())
	agrees(t, "Loopless", got, e, edges(4, api.Edge{A: 0, B: 1, Mult: 2}, api.Edge{A: 0, B: 3, Mult: 1}, api.Edge{A: 1, B: 2, Mult: 1}, api.Edge{A: 2, B: 3, Mult: 1}), api.OK)
	got, e = graph.Simple(example())
	agrees(t, "Simple", got, e, edges(4, api.Edge{A: 0, B: 1, Mult: 1}, api.Edge{A: 0, B: 3, Mult: 1}, api.Edge{A: 1, B: 2, Mult: 1}, api.Edge{A: 2, B: 3, Mult: 1}), api.OK)
	got, e = graph.Simple(edges(1, api.Edge{Mult: 50}))
	agrees(t, "Simple", got, e, edges(1), api.OK)
}
