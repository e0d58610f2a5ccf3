package contract_test

import (
	"math"
	"math/rand"
	"slices"
	"testing"

	"sandpile/api"
	"sandpile/contract"
)

// edges is a short name for graphs.
func edges(n int, l ...api.Edge) api.Graph { return api.Graph{N: n, Edges: l} }

// edge is a short name for edges.
func edge(a, b, mult int) api.Edge { return api.Edge{A: a, B: b, Mult: mult} }

func triangle() api.Graph { return edges(3, edge(0, 1, 1), edge(0, 2, 1), edge(1, 2, 1)) }

// made returns the graph with n vertices and some single edges, which may be joined more often than MaxMult.
func made(n int, ends [][2]int) api.Graph {
	var mult [api.MaxVertices][api.MaxVertices]int
	for _, x := range ends {
		mult[min(x[0], x[1])][max(x[0], x[1])]++
	}
	g := edges(n)
	for a := range n {
		for b := range n {
			if mult[a][b] > 0 {
				g.Edges = append(g.Edges, edge(a, b, mult[a][b]))
			}
		}
	}
	return g
}

// random returns a graph with n vertices, of which some pairs are joined.
func random(r *rand.Rand, n int, share float64, mult int) api.Graph {
	g := edges(n)
	for a := range n {
		for b := a; b < n; b++ {
			if r.Float64() < share {
				g.Edges = append(g.Edges, edge(a, b, 1+r.Intn(mult)))
			}
		}
	}
	return g
}

// full returns the graph in which every edge and every loop occurs some times.
func full(n, mult int) api.Graph {
	g := random(rand.New(rand.NewSource(1)), n, 2, 1)
	for i := range g.Edges {
		g.Edges[i].Mult = mult
	}
	return g
}

// small returns graphs with few single edges.
func small() []api.Graph {
	l := []api.Graph{
		edges(1), edges(1, edge(0, 0, 1)), edges(1, edge(0, 0, 3)), edges(2), edges(2, edge(0, 1, 1)), edges(2, edge(0, 1, 2)), edges(2, edge(0, 1, 5)), edges(2, edge(0, 0, 2), edge(0, 1, 1), edge(1, 1, 1)), edges(2, edge(1, 1, 2)),
		edges(3), edges(11, edge(0, 10, 1)), edges(12), edges(12, edge(11, 11, 4)), edges(12, edge(0, 11, 3)), triangle(), full(2, 2), full(3, 1), edges(4, edge(0, 1, 1), edge(0, 3, 1), edge(1, 2, 1), edge(2, 3, 1)),
	}
	r := rand.New(rand.NewSource(22))
	for len(l) < 300 {
		g := random(r, 1+r.Intn(7), []float64{0.2, 0.3, 0.5}[r.Intn(3)], 1+r.Intn(2))
		if len(ends(g)) <= 9 {
			l = append(l, g)
		}
	}
	return l
}

// large returns graphs of any size.
func large() []api.Graph {
	l := []api.Graph{full(12, 1), full(5, 3), edges(1, edge(0, 0, api.MaxMult)), edges(2, edge(0, 1, api.MaxMult))}
	r := rand.New(rand.NewSource(23))
	for range 200 {
		l = append(l, random(r, 1+r.Intn(api.MaxVertices), []float64{0.1, 0.15, 0.2, 0.3, 0.5}[r.Intn(5)], []int{1, 2, 5, 50}[r.Intn(4)]))
	}
	return l
}

// samples returns graphs in normal form.
func samples() []api.Graph { return append(small(), large()...) }

// some returns at most n single edges of a graph, the first and the last one among them.
func some(r *rand.Rand, g api.Graph, n int) []int {
	size := len(ends(g))
	l := all(size)
	if size > n {
		l = append(r.Perm(size)[:n-2], 0, size-1)
	}
	return l
}

// faulty is a graph that is not in normal form, and the error.
type faulty struct {
	g api.Graph
	e api.Errno
}

func wrong() []faulty {
	return []faulty{
		{api.Graph{}, api.ErrRange}, {edges(-1), api.ErrRange}, {edges(13), api.ErrRange}, {edges(math.MinInt), api.ErrRange}, {edges(math.MaxInt), api.ErrRange}, {edges(1, edge(0, 1, 1)), api.ErrRange}, {edges(3, edge(-1, 0, 1)), api.ErrRange}, {edges(3, edge(0, 3, 1)), api.ErrRange}, {edges(3, edge(0, 1, 0)), api.ErrRange}, {edges(3, edge(0, 1, 51)), api.ErrRange}, {edges(3, edge(0, 1, math.MaxInt)), api.ErrRange}, {edges(3, edge(math.MinInt, math.MaxInt, 1)), api.ErrRange},
		{edges(3, edge(1, 0, 1)), api.ErrOrder}, {edges(3, edge(0, 1, 1), edge(0, 1, 1)), api.ErrOrder}, {edges(3, edge(0, 2, 1), edge(0, 1, 1)), api.ErrOrder}, {edges(3, edge(1, 0, 1), edge(0, 3, 1)), api.ErrOrder}, {edges(12, make([]api.Edge, 5000)...), api.ErrRange}, {edges(12, slices.Repeat([]api.Edge{edge(2, 3, 4)}, 5000)...), api.ErrOrder},
	}
}

// arguments are those of all functions.
type arguments struct {
	g       api.Graph
	e, a, b int
	k       int
	d       api.Divisor
}

// results are what all functions return.
type results struct {
	graphs map[string]api.Graph
	lists  map[string][]int
	e      map[string]api.Errno
}

// calls calls all functions.
func (x arguments) calls() results {
	r := results{graphs: map[string]api.Graph{}, lists: map[string][]int{}, e: map[string]api.Errno{}}
	r.graphs["Delete"], r.e["Delete"] = contract.Delete(x.g, x.e)
	r.graphs["Contract"], r.e["Contract"] = contract.Contract(x.g, x.e)
	r.lists["Vertices"], r.e["Vertices"] = contract.Vertices(x.g, x.e)
	r.lists["Singles"], r.lists["contracted"], r.e["Singles"] = contract.Singles(x.g, x.e)
	r.graphs["Merge"], r.e["Merge"] = contract.Merge(x.g, x.a, x.b)
	r.graphs["Subdivide"], r.e["Subdivide"] = contract.Subdivide(x.g, x.k)
	spread, e := contract.Spread(x.g, x.k, x.d)
	r.lists["Spread"], r.e["Spread"] = spread, e
	collected, e := contract.Collect(x.g, x.e, x.d)
	r.lists["Collect"], r.e["Collect"] = collected, e
	return r
}

// isZero tells whether the results of a function are zero values.
func (r results) isZero(name string) bool {
	return same(r.graphs[name], api.Graph{}) && len(r.lists[name]) == 0 && (name != "Singles" || len(r.lists["contracted"]) == 0)
}

// same tells whether two graphs are equal.
func same(g, h api.Graph) bool { return g.N == h.N && slices.Equal(g.Edges, h.Edges) }

// must returns what a function returns that has no error.
func must[T any](t *testing.T) func(x T, e api.Errno) T {
	return func(x T, e api.Errno) T {
		t.Helper()
		if e != api.OK {
			t.Fatalf("%v beside the error %d", x, e)
		}
		return x
	}
}

// agrees checks a graph and an error.
func agrees(t *testing.T, name string, what any, g api.Graph, e api.Errno, want api.Graph, error api.Errno) {
	t.Helper()
	if !same(g, want) || e != error {
		t.Errorf("%s of %v: %v beside the error %d, want %v beside %d", name, what, g, e, want, error)
	}
}

// agreesList checks a list and an error.
func agreesList(t *testing.T, name string, what any, l []int, e api.Errno, want []int, error api.Errno) {
	t.Helper()
	if !slices.Equal(l, want) || e != error {
		t.Errorf("%s of %v: %v beside the error %d, want %v beside %d", name, what, l, e, want, error)
	}
}

// ends returns the ends of the single edges.
func ends(g api.Graph) [][2]int {
	var l [][2]int
	for _, x := range g.Edges {
		l = append(l, slices.Repeat([][2]int{{x.A, x.B}}, x.Mult)...)
	}
	return l
}

// all returns the numbers from 0 to n - 1.
func all(n int) []int {
	var l []int
	for i := range n {
		l = append(l, i)
	}
	return l
}

// merged returns the new number of each vertex when two are merged: their places among those that remain.
func merged(n, a, b int) []int {
	if a > b {
		a, b = b, a
	}
	l := all(n)
	if a == b {
		return l
	}
	kept := slices.DeleteFunc(all(n), func(v int) bool { return v == b })
	for v := range l {
		l[v] = slices.Index(kept, v)
	}
	l[b] = slices.Index(kept, a)
	return l
}

// moved returns the graph whose single edges have the new numbers of their ends, and ErrMany if it is none.
func moved(ends [][2]int, to []int) (api.Graph, api.Errno) {
	var l [][2]int
	for _, x := range ends {
		l = append(l, [2]int{to[x[0]], to[x[1]]})
	}
	g := made(1+slices.Max(to), l)
	if slices.ContainsFunc(g.Edges, func(x api.Edge) bool { return x.Mult > api.MaxMult }) {
		return api.Graph{}, api.ErrMany
	}
	return g, api.OK
}

// without returns a list without its element i.
func without[T any](l []T, i int) []T { return slices.Concat(l[:i], l[i+1:]) }
