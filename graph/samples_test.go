package graph_test

import (
	"math"
	"math/rand"
	"slices"
	"testing"

	"sandpile/api"
	"sandpile/graph"
)

// grid has the number of single edges between two vertices: a graph as a table, on which the references work.
type grid [api.MaxVertices][api.MaxVertices]int

// gridOf returns the table of a graph in normal form.
func gridOf(g api.Graph) grid {
	var m grid
	for _, e := range g.Edges {
		m[e.A][e.B] = e.Mult
		m[e.B][e.A] = e.Mult
	}
	return m
}

// graph returns the graph with n vertices and a table.
func (m grid) graph(n int) api.Graph {
	g := api.Graph{N: n}
	for a := range n {
		for b := a; b < n; b++ {
			if m[a][b] > 0 {
				g.Edges = append(g.Edges, api.Edge{A: a, B: b, Mult: m[a][b]})
			}
		}
	}
	return g
}

// edges is a short name for graphs.
func edges(n int, l ...api.Edge) api.Graph { return api.Graph{N: n, Edges: l} }

// example is the graph of the examples.
func example() api.Graph {
	return edges(4, api.Edge{A: 0, B: 1, Mult: 2}, api.Edge{A: 0, B: 3, Mult: 1}, api.Edge{A: 1, B: 2, Mult: 1}, api.Edge{A: 2, B: 2, Mult: 1}, api.Edge{A: 2, B: 3, Mult: 1})
}

// full returns the graph in which every edge and every loop occurs some times.
func full(n, mult int) api.Graph {
	var m grid
	for a := range n {
		for b := range n {
			m[a][b] = mult
		}
	}
	return m.graph(n)
}

// random returns a graph with n vertices, of which some pairs are joined.
func random(r *rand.Rand, n int, share float64, mult int) api.Graph {
	var m grid
	for a := range n {
		for b := range a + 1 {
			if r.Float64() < share {
				m[b][a] = 1 + r.Intn(mult)
			}
		}
	}
	return m.graph(n)
}

// samples returns graphs in normal form.
func samples() []api.Graph {
	l := []api.Graph{edges(1), edges(2), edges(12), edges(1, api.Edge{Mult: 1}), edges(1, api.Edge{Mult: api.MaxMult}), edges(2, api.Edge{B: 1, Mult: api.MaxMult}), example(), full(3, 1), full(5, 3), full(12, 1), full(12, api.MaxMult), edges(12, api.Edge{A: 11, B: 11, Mult: 7}), edges(12, api.Edge{A: 0, B: 11, Mult: 50})}
	r := rand.New(rand.NewSource(14))
	for range 200 {
		l = append(l, random(r, 1+r.Intn(api.MaxVertices), []float64{0.1, 0.2, 0.5, 0.9}[r.Intn(4)], []int{1, 2, 5, 50}[r.Intn(4)]))
	}
	return l
}

// faulty is a graph that is not in normal form, and the error.
type faulty struct {
	g api.Graph
	e api.Errno
}

func wrong() []faulty {
	edge := func(a, b, mult int) api.Edge { return api.Edge{A: a, B: b, Mult: mult} }
	return []faulty{
		{api.Graph{}, api.ErrRange}, {edges(-1), api.ErrRange}, {edges(13), api.ErrRange}, {edges(math.MinInt), api.ErrRange}, {edges(math.MaxInt), api.ErrRange}, {edges(13, edge(1, 0, 1)), api.ErrRange}, {edges(0, edge(0, 0, 1)), api.ErrRange},
		{edges(3, edge(-1, 0, 1)), api.ErrRange}, {edges(3, edge(0, 3, 1)), api.ErrRange}, {edges(3, edge(3, 3, 1)), api.ErrRange}, {edges(3, edge(0, -1, 1)), api.ErrRange}, {edges(3, edge(3, 0, 1)), api.ErrRange}, {edges(12, edge(0, 12, 1)), api.ErrRange}, {edges(1, edge(0, 1, 1)), api.ErrRange}, {edges(3, edge(math.MinInt, 0, 1)), api.ErrRange}, {edges(3, edge(0, math.MaxInt, 1)), api.ErrRange},
		{edges(3, edge(0, 1, 0)), api.ErrRange}, {edges(3, edge(0, 1, -1)), api.ErrRange}, {edges(3, edge(0, 1, 51)), api.ErrRange}, {edges(3, edge(1, 1, 51)), api.ErrRange}, {edges(3, edge(1, 1, 0)), api.ErrRange}, {edges(3, edge(0, 1, math.MaxInt)), api.ErrRange}, {edges(3, edge(0, 1, math.MinInt)), api.ErrRange},
		{edges(3, edge(1, 0, 1)), api.ErrOrder}, {edges(3, edge(2, 0, 50)), api.ErrOrder}, {edges(3, edge(2, 1, 51)), api.ErrRange},
		{edges(3, edge(0, 1, 1), edge(0, 1, 1)), api.ErrOrder}, {edges(3, edge(0, 2, 1), edge(0, 1, 1)), api.ErrOrder}, {edges(3, edge(1, 1, 1), edge(0, 2, 1)), api.ErrOrder}, {edges(3, edge(1, 1, 1), edge(1, 1, 2)), api.ErrOrder}, {edges(3, edge(0, 1, 1), edge(1, 2, 1), edge(0, 2, 1)), api.ErrOrder}, {edges(3, edge(0, 1, 1), edge(0, 0, 1)), api.ErrOrder}, {edges(3, edge(0, 1, 1), edge(2, 1, 1)), api.ErrOrder}, {edges(4, edge(1, 2, 1), edge(0, 3, 1)), api.ErrOrder},
		// The first edge with an error counts, and its range first.
		{edges(3, edge(1, 0, 1), edge(0, 3, 1)), api.ErrOrder}, {edges(3, edge(0, 3, 1), edge(1, 0, 1)), api.ErrRange}, {edges(3, edge(0, 1, 1), edge(0, 1, 0)), api.ErrRange}, {edges(3, edge(0, 1, 1), edge(0, 1, 1), edge(0, 5, 1)), api.ErrOrder}, {edges(3, edge(0, 1, 1), edge(1, 5, 1), edge(0, 1, 1)), api.ErrRange},
		{edges(12, make([]api.Edge, 5000)...), api.ErrRange}, {edges(12, slices.Repeat([]api.Edge{edge(2, 3, 4)}, 5000)...), api.ErrOrder},
	}
}

// same tells whether two graphs are equal.
func same(g, h api.Graph) bool { return g.N == h.N && slices.Equal(g.Edges, h.Edges) }

// clone returns a graph of its own memory.
func clone(g api.Graph) api.Graph { return api.Graph{N: g.N, Edges: slices.Clone(g.Edges)} }

// agrees checks a graph and an error.
func agrees(t *testing.T, name string, g api.Graph, e api.Errno, want api.Graph, error api.Errno) {
	t.Helper()
	if !same(g, want) || e != error {
		t.Errorf("%s: %v beside the error %d, want %v beside %d", name, g, e, want, error)
	}
}

// agreesList checks a list and an error.
func agreesList[T comparable](t *testing.T, name string, l []T, e api.Errno, want []T, error api.Errno) {
	t.Helper()
	if !slices.Equal(l, want) || e != error {
		t.Errorf("%s: %v beside the error %d, want %v beside %d", name, l, e, want, error)
	}
}

// must returns what a function returns that has no error.
func must[T any](t *testing.T) func(x T, e api.Errno) T {
	return func(x T, e api.Errno) T {
		t.Helper()
		if e != api.OK {
			t.Fatalf("%v beside the error %d", x, e)
		}
		return x
	}
}

// calls returns calls of all functions with a graph, which return their errors; other arguments are right for every graph in normal form, or wrong for all of them.
func calls(g api.Graph, v int, set, to []int) map[string]api.Errno {
	l := map[string]api.Errno{"Check": graph.Check(g), "Subset": graph.Subset(g, set)}
	_, l["Size"] = graph.Size(g)
	_, l["Ends"] = graph.Ends(g)
	_, l["Degree"] = graph.Degree(g, v)
	_, l["Valence"] = graph.Valence(g, v)
	_, l["Between"] = graph.Between(g, v, v)
	_, l["Neighbours"] = graph.Neighbours(g, v)
	_, l["Genus"] = graph.Genus(g)
	_, l["Cut"] = graph.Cut(g, set)
	_, l["Induced"] = graph.Induced(g, set)
	_, l["Relabel"] = graph.Relabel(g, to)
	_, l["Loopless"] = graph.Loopless(g)
	_, l["Simple"] = graph.Simple(g)
	return l
}
