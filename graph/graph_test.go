package graph_test

import (
	"math"
	"math/rand"
	"slices"
	"testing"

	"sandpile/api"
	"sandpile/graph"
)

// Tests of P8.1.

func TestCheck(t *testing.T) {
	for _, g := range samples() {
		if e := graph.Check(g); e != api.OK {
			t.Errorf("%v has the error %d", g, e)
		}
	}
	for _, x := range wrong() {
		if e := graph.Check(x.g); e != x.e {
			t.Errorf("%.200v has the error %d, want %d", x.g, e, x.e)
		}
		// The graph comes before all other arguments.
		for _, list := range [][]int{{0}, {-1}, {5, 5}, nil} {
			for _, v := range []int{0, -1, 99} {
				for name, e := range calls(x.g, v, list, list) {
					if e != x.e {
						t.Errorf("%s of %.200v has the error %d, want %d", name, x.g, e, x.e)
					}
				}
			}
		}
	}
}

// TestCheckEachEdge puts every edge behind every other one, and takes numbers around the limits.
func TestCheckEachEdge(t *testing.T) {
	around := []int{-1, 0, 1, 2, 3}
	mults := []int{-1, 0, 1, 50, 51}
	for _, a := range around {
		for _, b := range around {
			for _, mult := range mults {
				want := api.OK
				switch {
				case a < 0 || a > 2 || b < 0 || b > 2 || mult < 1 || mult > 50:
					want = api.ErrRange
				case a > b:
					want = api.ErrOrder
				}
				second := api.Edge{A: a, B: b, Mult: mult}
				if e := graph.Check(edges(3, second)); e != want {
					t.Errorf("%v: the error %d", second, e)
				}
				for _, first := range full(3, 2).Edges {
					both := want
					if want == api.OK && first.A*3+first.B >= a*3+b {
						both = api.ErrOrder
					}
					if e := graph.Check(edges(3, first, second)); e != both {
						t.Errorf("%v behind %v: the error %d", second, first, e)
					}
				}
			}
		}
	}
}

func TestMake(t *testing.T) {
	r := rand.New(rand.NewSource(15))
	for _, g := range samples() {
		// The single edges in another order, with their ends in another order.
		var l [][2]int
		for _, e := range g.Edges {
			for range e.Mult {
				ends := [2]int{e.A, e.B}
				if r.Intn(2) == 0 {
					ends = [2]int{e.B, e.A}
				}
				l = append(l, ends)
			}
		}
		r.Shuffle(len(l), func(i, j int) { l[i], l[j] = l[j], l[i] })
		got, e := graph.Make(g.N, l)
		agrees(t, "Make", got, e, g, api.OK)
	}
	got, e := graph.Make(4, [][2]int{{2, 2}, {3, 0}, {0, 1}, {3, 2}, {1, 0}, {2, 1}})
	agrees(t, "Make", got, e, example(), api.OK)
	got, e = graph.Make(1, nil)
	agrees(t, "Make", got, e, edges(1), api.OK)
	got, e = graph.Make(12, [][2]int{})
	agrees(t, "Make", got, e, edges(12), api.OK)
}

func TestMakeErrors(t *testing.T) {
	pairs := func(n int, ends ...[2]int) [][2]int { return slices.Repeat(ends, n) }
	ends := func(g api.Graph) [][2]int { return must[[][2]int](t)(graph.Ends(g)) }
	for i, x := range []struct {
		n    int
		ends [][2]int
		want api.Graph
		e    api.Errno
	}{
		{0, nil, api.Graph{}, api.ErrRange}, {-1, nil, api.Graph{}, api.ErrRange}, {13, nil, api.Graph{}, api.ErrRange}, {math.MinInt, nil, api.Graph{}, api.ErrRange}, {math.MaxInt, nil, api.Graph{}, api.ErrRange}, {12, nil, edges(12), api.OK},
		{3, pairs(1, [2]int{0, 3}), api.Graph{}, api.ErrRange}, {3, pairs(1, [2]int{3, 0}), api.Graph{}, api.ErrRange}, {3, pairs(1, [2]int{-1, 0}), api.Graph{}, api.ErrRange}, {3, pairs(1, [2]int{0, -1}), api.Graph{}, api.ErrRange}, {1, pairs(1, [2]int{1, 1}), api.Graph{}, api.ErrRange}, {12, pairs(1, [2]int{11, 12}), api.Graph{}, api.ErrRange}, {3, pairs(1, [2]int{math.MaxInt, math.MinInt}), api.Graph{}, api.ErrRange},
		// MaxMult parallel edges and loops, and more, in both orders.
		{2, pairs(50, [2]int{0, 1}), edges(2, api.Edge{B: 1, Mult: 50}), api.OK}, {2, pairs(51, [2]int{0, 1}), api.Graph{}, api.ErrMany}, {2, pairs(25, [2]int{0, 1}, [2]int{1, 0}), edges(2, api.Edge{B: 1, Mult: 50}), api.OK}, {2, append(pairs(25, [2]int{0, 1}, [2]int{1, 0}), [2]int{1, 0}), api.Graph{}, api.ErrMany}, {1, pairs(50, [2]int{0, 0}), edges(1, api.Edge{Mult: 50}), api.OK}, {1, pairs(51, [2]int{0, 0}), api.Graph{}, api.ErrMany}, {3, pairs(50, [2]int{0, 0}, [2]int{0, 1}, [2]int{2, 1}), edges(3, api.Edge{Mult: 50}, api.Edge{B: 1, Mult: 50}, api.Edge{A: 1, B: 2, Mult: 50}), api.OK},
		{12, ends(full(12, 50)), full(12, 50), api.OK}, {12, append(ends(full(12, 50)), [2]int{7, 3}), api.Graph{}, api.ErrMany}, {12, append(ends(full(12, 50)), [2]int{11, 11}), api.Graph{}, api.ErrMany},
		// The order of the errors: too many pairs, pairs out of range, too many between two vertices.
		{12, pairs(4096, [2]int{0, 12}), api.Graph{}, api.ErrRange}, {12, pairs(4097, [2]int{0, 12}), api.Graph{}, api.ErrMany}, {12, pairs(4096, [2]int{0, 1}), api.Graph{}, api.ErrMany}, {12, pairs(4097, [2]int{0, 1}), api.Graph{}, api.ErrMany}, {0, pairs(4097, [2]int{0, 1}), api.Graph{}, api.ErrRange}, {13, pairs(60, [2]int{0, 1}), api.Graph{}, api.ErrRange},
		{2, append(pairs(60, [2]int{0, 1}), [2]int{0, 2}), api.Graph{}, api.ErrRange}, {2, append([][2]int{{-1, 0}}, pairs(60, [2]int{0, 1})...), api.Graph{}, api.ErrRange},
	} {
		got, e := graph.Make(x.n, x.ends)
		if !same(got, x.want) || e != x.e {
			t.Errorf("case %d: %.200v beside the error %d, want %d", i, got, e, x.e)
		}
	}
}

func TestSizeAndEnds(t *testing.T) {
	for _, g := range samples() {
		m := gridOf(g)
		var want [][2]int
		for a := range g.N {
			for b := a; b < g.N; b++ {
				want = append(want, slices.Repeat([][2]int{{a, b}}, m[a][b])...)
			}
		}
		l, e := graph.Ends(g)
		agreesList(t, "Ends", l, e, want, api.OK)
		if n, e := graph.Size(g); n != len(want) || e != api.OK {
			t.Errorf("Size of %v: %d beside the error %d", g, n, e)
		}
	}
	l, e := graph.Ends(example())
	agreesList(t, "Ends", l, e, [][2]int{{0, 1}, {0, 1}, {0, 3}, {1, 2}, {2, 2}, {2, 3}}, api.OK)
	for _, x := range []struct {
		g    api.Graph
		size int
	}{{example(), 6}, {edges(1), 0}, {edges(12), 0}, {edges(1, api.Edge{Mult: 50}), 50}, {full(12, 50), 3900}, {full(3, 1), 6}} {
		if n, e := graph.Size(x.g); n != x.size || e != api.OK {
			t.Errorf("Size of %v: %d beside the error %d", x.g, n, e)
		}
	}
}

func TestVertices(t *testing.T) {
	for _, g := range samples() {
		m := gridOf(g)
		for v := range g.N {
			degree, valence := 0, 0
			var neighbours []int
			for w := range g.N {
				degree += m[v][w]
				if v == w {
					degree += m[v][v]
					continue
				}
				valence += m[v][w]
				if m[v][w] > 0 {
					neighbours = append(neighbours, w)
				}
			}
			if n, e := graph.Degree(g, v); n != degree || e != api.OK {
				t.Errorf("Degree of %d in %v: %d beside the error %d", v, g, n, e)
			}
			if n, e := graph.Valence(g, v); n != valence || e != api.OK {
				t.Errorf("Valence of %d in %v: %d beside the error %d", v, g, n, e)
			}
			l, e := graph.Neighbours(g, v)
			agreesList(t, "Neighbours", l, e, neighbours, api.OK)
			for w := range g.N {
				if n, e := graph.Between(g, v, w); n != m[v][w] || e != api.OK {
					t.Errorf("Between %d and %d in %v: %d beside the error %d", v, w, g, n, e)
				}
			}
		}
	}
	for _, x := range []struct {
		g                  api.Graph
		v, degree, valence int
		neighbours         []int
	}{
		{example(), 0, 3, 3, []int{1, 3}}, {example(), 2, 4, 2, []int{1, 3}}, {example(), 3, 2, 2, []int{0, 2}}, {edges(1), 0, 0, 0, nil}, {edges(1, api.Edge{Mult: 50}), 0, 100, 0, nil}, {full(12, 50), 11, 650, 550, []int{0, 1, 2, 3, 4, 5, 6, 7, 8, 9, 10}}, {full(12, 50), 4, 650, 550, []int{0, 1, 2, 3, 5, 6, 7, 8, 9, 10, 11}},
	} {
		n, e := graph.Degree(x.g, x.v)
		k, f := graph.Valence(x.g, x.v)
		l, h := graph.Neighbours(x.g, x.v)
		if n != x.degree || k != x.valence || !slices.Equal(l, x.neighbours) || e != api.OK || f != api.OK || h != api.OK {
			t.Errorf("%d in %v: %d, %d, %v", x.v, x.g, n, k, l)
		}
	}
	for _, x := range [][3]int{{0, 1, 2}, {1, 0, 2}, {2, 2, 1}, {0, 0, 0}, {0, 2, 0}, {2, 0, 0}, {3, 2, 1}} {
		if n, e := graph.Between(example(), x[0], x[1]); n != x[2] || e != api.OK {
			t.Errorf("Between %d and %d: %d beside the error %d", x[0], x[1], n, e)
		}
	}
}

func TestNoVertices(t *testing.T) {
	for _, g := range []api.Graph{edges(1), edges(1, api.Edge{Mult: 2}), example(), full(12, 2)} {
		for _, v := range []int{-1, g.N, g.N + 1, math.MinInt, math.MaxInt} {
			for name, call := range map[string]func() (int, api.Errno){
				"Degree":  func() (int, api.Errno) { return graph.Degree(g, v) },
				"Valence": func() (int, api.Errno) { return graph.Valence(g, v) },
				"Neighbours": func() (int, api.Errno) {
					l, e := graph.Neighbours(g, v)
					return len(l), e
				},
				"first":  func() (int, api.Errno) { return graph.Between(g, v, 0) },
				"second": func() (int, api.Errno) { return graph.Between(g, 0, v) },
				"both":   func() (int, api.Errno) { return graph.Between(g, v, v) },
			} {
				if n, e := call(); n != 0 || e != api.ErrRange {
					t.Errorf("%s of %d in %v: %d beside the error %d", name, v, g, n, e)
				}
			}
		}
	}
}

// genus follows the definition, with a search for the components.
func genus(g api.Graph) int {
	m := gridOf(g)
	size, components := 0, 0
	var seen [api.MaxVertices]bool
	var visit func(v int)
	visit = func(v int) {
		seen[v] = true
		for w := range g.N {
			if m[v][w] > 0 && !seen[w] {
				visit(w)
			}
		}
	}
	for v := range g.N {
		if !seen[v] {
			components++
			visit(v)
		}
		for w := range v + 1 {
			size += m[v][w]
		}
	}
	return size - g.N + components
}

func TestGenus(t *testing.T) {
	for _, g := range samples() {
		if n, e := graph.Genus(g); n != genus(g) || e != api.OK {
			t.Errorf("Genus of %v: %d beside the error %d, want %d", g, n, e, genus(g))
		}
	}
	edge := func(a, b int) api.Edge { return api.Edge{A: a, B: b, Mult: 1} }
	for _, x := range []struct {
		g    api.Graph
		want int
	}{
		{example(), 3}, {edges(1), 0}, {edges(12), 0}, {edges(1, api.Edge{Mult: 1}), 1}, {edges(1, api.Edge{Mult: 50}), 50}, {edges(2, api.Edge{B: 1, Mult: 3}), 2}, {edges(3, edge(0, 1), edge(0, 2)), 0}, {edges(3, edge(0, 1), edge(0, 2), edge(1, 2)), 1}, {edges(6, edge(0, 3), edge(0, 5), edge(1, 2), edge(1, 4), edge(2, 4), edge(3, 5)), 2}, {edges(6, edge(0, 5), edge(1, 4), edge(2, 3)), 0}, {edges(6, edge(0, 1), edge(2, 3), edge(4, 5), api.Edge{A: 5, B: 5, Mult: 2}), 2}, {full(12, 50), 3889},
		// A path on which the components are joined late.
		{edges(8, edge(0, 7), edge(1, 6), edge(1, 7), edge(2, 5), edge(2, 6), edge(3, 4), edge(3, 5)), 0}, {edges(8, edge(0, 7), edge(1, 6), edge(2, 5), edge(3, 4), edge(4, 5), edge(5, 6), edge(6, 7)), 0},
	} {
		if n, e := graph.Genus(x.g); n != x.want || e != api.OK {
			t.Errorf("Genus of %v: %d beside the error %d, want %d", x.g, n, e, x.want)
		}
	}
}
