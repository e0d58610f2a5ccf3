package tree_test

import (
	"math"
	"math/big"
	"math/rand"
	"slices"
	"testing"

	"sandpile/api"
	"sandpile/tree"
)

// edges is a short name for graphs.
func edges(n int, l ...api.Edge) api.Graph { return api.Graph{N: n, Edges: l} }

// edge is a short name for edges.
func edge(a, b, mult int) api.Edge { return api.Edge{A: a, B: b, Mult: mult} }

// example is the graph of the examples.
func example() api.Graph { return edges(3, edge(0, 1, 2), edge(0, 2, 1), edge(1, 2, 1)) }

// looped is a graph with the single edges 0-0, 0-1, 0-1, 0-2, 1-2, 2-3, 3-3 and 3-3.
func looped() api.Graph {
	return edges(4, edge(0, 0, 1), edge(0, 1, 2), edge(0, 2, 1), edge(1, 2, 1), edge(2, 3, 1), edge(3, 3, 2))
}

// random returns a graph with n vertices, of which some pairs are joined.
func random(r *rand.Rand, n int, share float64, mult int) api.Graph {
	g := edges(n)
	for a := range n {
		for b := a; b < n; b++ {
			if r.Float64() < share {
				g.Edges = append(g.Edges, edge(a, b, 1+r.Intn(mult)))
			}
		}
	}
	return g
}

// full returns the graph in which every edge and every loop occurs some times.
func full(n, mult int) api.Graph {
	g := random(rand.New(rand.NewSource(1)), n, 2, 1)
	for i := range g.Edges {
		g.Edges[i].Mult = mult
	}
	return g
}

// chain returns the graph in which each vertex is joined with the next one some times.
func chain(mult ...int) api.Graph {
	g := edges(len(mult) + 1)
	for v, m := range mult {
		g.Edges = append(g.Edges, edge(v, v+1, m))
	}
	return g
}

// small returns connected graphs with so few single edges that all sets of them can be looked at.
func small() []api.Graph {
	l := []api.Graph{
		edges(1), edges(1, edge(0, 0, 1)), edges(1, edge(0, 0, 3)), edges(2, edge(0, 1, 1)), edges(2, edge(0, 1, 2)), edges(2, edge(0, 1, 5)), edges(2, edge(0, 0, 2), edge(0, 1, 1), edge(1, 1, 1)),
		example(), looped(), chain(1, 1, 1, 1), chain(2, 1, 3), full(2, 2), full(3, 1),
		// Trees whose single edges are not in the order of a walk.
		edges(4, edge(0, 3, 1), edge(1, 2, 1), edge(2, 3, 1)), edges(6, edge(0, 5, 1), edge(1, 4, 1), edge(2, 3, 1), edge(2, 4, 1), edge(4, 5, 1)), edges(12, edge(0, 11, 1), edge(1, 11, 1), edge(2, 11, 1), edge(3, 11, 1), edge(4, 11, 1), edge(5, 11, 1), edge(6, 11, 1), edge(7, 11, 1), edge(8, 11, 1), edge(9, 11, 1), edge(10, 11, 1)),
	}
	r := rand.New(rand.NewSource(40))
	for len(l) < 250 {
		g := random(r, 1+r.Intn(6), []float64{0.3, 0.5, 0.7}[r.Intn(3)], 1+r.Intn(3))
		if of := ends(g); len(of) <= 9 && isWhole(g.N, of, all(len(of))) {
			l = append(l, g)
		}
	}
	return l
}

// large returns connected graphs of any size.
func large() []api.Graph {
	l := []api.Graph{full(12, 1), full(12, api.MaxMult), full(5, 3), edges(1, edge(0, 0, api.MaxMult)), edges(2, edge(0, 1, api.MaxMult)), chain(1, 1, 1, 1, 1, 1, 1, 1, 1, 1, 1), chain(50, 50, 50, 50, 50, 50, 50, 50, 50, 50, 50)}
	r := rand.New(rand.NewSource(41))
	for len(l) < 120 {
		g := random(r, 1+r.Intn(api.MaxVertices), []float64{0.2, 0.3, 0.5}[r.Intn(3)], []int{1, 2, 5, 50}[r.Intn(4)])
		if of := ends(g); isWhole(g.N, of, all(len(of))) {
			l = append(l, g)
		}
	}
	return l
}

// samples returns connected graphs.
func samples() []api.Graph { return append(small(), large()...) }

// apart returns graphs that are not connected.
func apart() []api.Graph {
	return []api.Graph{
		edges(2), edges(12), edges(2, edge(0, 0, 1)), edges(2, edge(0, 0, 3), edge(1, 1, 2)), edges(3, edge(0, 1, 2)), edges(3, edge(1, 2, 50)), edges(3, edge(0, 2, 1), edge(1, 1, 1)), edges(4, edge(0, 1, 3), edge(2, 3, 3)), edges(4, edge(0, 2, 1), edge(1, 3, 1), edge(2, 2, 1)), edges(4, edge(0, 1, 1), edge(0, 2, 1), edge(1, 2, 1)),
		edges(12, full(11, 50).Edges...),
	}
}

// faulty is a graph that is not in normal form, and the error.
type faulty struct {
	g api.Graph
	e api.Errno
}

func wrong() []faulty {
	return []faulty{
		{api.Graph{}, api.ErrRange}, {edges(-1), api.ErrRange}, {edges(13), api.ErrRange}, {edges(math.MinInt), api.ErrRange}, {edges(math.MaxInt), api.ErrRange}, {edges(1, edge(0, 1, 1)), api.ErrRange}, {edges(3, edge(-1, 0, 1)), api.ErrRange}, {edges(3, edge(0, 3, 1)), api.ErrRange}, {edges(3, edge(0, 1, 0)), api.ErrRange}, {edges(3, edge(0, 1, 51)), api.ErrRange}, {edges(3, edge(0, 1, math.MaxInt)), api.ErrRange}, {edges(3, edge(math.MinInt, math.MaxInt, 1)), api.ErrRange},
		{edges(3, edge(1, 0, 1)), api.ErrOrder}, {edges(3, edge(0, 1, 1), edge(0, 1, 1)), api.ErrOrder}, {edges(3, edge(0, 2, 1), edge(0, 1, 1)), api.ErrOrder}, {edges(3, edge(1, 0, 1), edge(0, 3, 1)), api.ErrOrder}, {edges(3, edge(0, 1, 1), edge(1, 2, 1), edge(0, 2, 1)), api.ErrOrder}, {edges(12, make([]api.Edge, 5000)...), api.ErrRange}, {edges(12, slices.Repeat([]api.Edge{edge(2, 3, 4)}, 5000)...), api.ErrOrder},
	}
}

// arguments are those of all functions: two single edges, and two vertices.
type arguments struct {
	g    api.Graph
	t    []int
	e, f int
	v, w int
}

// results are what all functions return.
type results struct {
	lists map[string][][]int
	count int
	e     map[string]api.Errno
}

// calls calls all functions.
func (x arguments) calls() results {
	r := results{lists: map[string][][]int{}, e: map[string]api.Errno{}}
	keep := func(name string) func(l []int, e api.Errno) {
		return func(l []int, e api.Errno) {
			if len(l) > 0 {
				r.lists[name] = [][]int{l}
			}
			r.e[name] = e
		}
	}
	r.e["Check"] = tree.Check(x.g, x.t)
	r.lists["All"], r.e["All"] = tree.All(x.g)
	r.count, r.e["Count"] = tree.Count(x.g)
	keep("First")(tree.First(x.g))
	keep("Cycle")(tree.Cycle(x.g, x.t, x.e))
	keep("Cutset")(tree.Cutset(x.g, x.t, x.e))
	keep("Swap")(tree.Swap(x.g, x.t, x.e, x.f))
	keep("Path")(tree.Path(x.g, x.t, x.v, x.w))
	keep("Parents")(tree.Parents(x.g, x.t, x.v))
	return r
}

// isZero tells whether the results of a function are zero values.
func (r results) isZero(name string) bool {
	return len(r.lists[name]) == 0 && (name != "Count" || r.count == 0)
}

// must returns what a function returns that has no error.
func must[T any](t *testing.T) func(x T, e api.Errno) T {
	return func(x T, e api.Errno) T {
		t.Helper()
		if e != api.OK {
			t.Fatalf("%v beside the error %d", x, e)
		}
		return x
	}
}

// agrees checks a list and an error.
func agrees(t *testing.T, name string, what any, l []int, e api.Errno, want []int, error api.Errno) {
	t.Helper()
	if !slices.Equal(l, want) || e != error {
		t.Errorf("%s of %v: %v beside the error %d, want %v beside %d", name, what, l, e, want, error)
	}
}

// ends returns the ends of the single edges.
func ends(g api.Graph) [][2]int {
	var l [][2]int
	for _, x := range g.Edges {
		l = append(l, slices.Repeat([][2]int{{x.A, x.B}}, x.Mult)...)
	}
	return l
}

// all returns the numbers from 0 to n - 1.
func all(n int) []int {
	var l []int
	for i := range n {
		l = append(l, i)
	}
	return l
}

// without returns a list without an element.
func without(l []int, x int) []int {
	return slices.DeleteFunc(slices.Clone(l), func(y int) bool { return y == x })
}

// reach returns the vertices to which some single edges lead from a vertex.
func reach(of [][2]int, l []int, from int) map[int]bool {
	near := map[int]bool{from: true}
	for grown := true; grown; {
		grown = false
		for _, e := range l {
			a, b := of[e][0], of[e][1]
			if near[a] != near[b] {
				near[a], near[b], grown = true, true, true
			}
		}
	}
	return near
}

// isWhole tells whether n vertices are connected by some single edges.
func isWhole(n int, of [][2]int, l []int) bool { return len(reach(of, l, 0)) == n }

// sets returns all sets of k of the numbers from 0 to n - 1, in lexicographic order.
func sets(n, k int) [][]int {
	var l [][]int
	for mask := range 1 << n {
		var set []int
		for i := range n {
			if mask>>i&1 == 1 {
				set = append(set, i)
			}
		}
		if len(set) == k {
			l = append(l, set)
		}
	}
	slices.SortFunc(l, slices.Compare)
	return l
}

// listed returns all spanning trees of a small graph.
func listed(g api.Graph) [][]int {
	of := ends(g)
	return slices.DeleteFunc(sets(len(of), g.N-1), func(l []int) bool { return !isWhole(g.N, of, l) })
}

// number returns the number of spanning trees: the determinant of the Laplacian without its first row and column, by fractions.
func number(g api.Graph) *big.Int {
	n := g.N - 1
	m := make([][]*big.Rat, n)
	for i := range m {
		m[i] = make([]*big.Rat, n)
		for j := range m[i] {
			m[i][j] = new(big.Rat)
		}
	}
	for _, x := range g.Edges {
		if x.A == x.B {
			continue
		}
		mult := big.NewRat(int64(x.Mult), 1)
		for _, pair := range [][2]int{{x.A, x.B}, {x.B, x.A}} {
			if i, j := pair[0]-1, pair[1]-1; i >= 0 {
				m[i][i].Add(m[i][i], mult)
				if j >= 0 {
					m[i][j].Sub(m[i][j], mult)
				}
			}
		}
	}
	// The minors of a connected graph are positive, so no pivot is 0.
	product := big.NewRat(1, 1)
	for k := range n {
		product.Mul(product, m[k][k])
		for i := k + 1; i < n; i++ {
			factor := new(big.Rat).Quo(m[i][k], m[k][k])
			for j := k; j < n; j++ {
				m[i][j].Sub(m[i][j], new(big.Rat).Mul(factor, m[k][j]))
			}
		}
	}
	return product.Num()
}

// grown returns a spanning tree of a connected graph that takes the single edges in a random order.
func grown(r *rand.Rand, g api.Graph) []int {
	of := ends(g)
	var l []int
	for _, e := range r.Perm(len(of)) {
		if !reach(of, l, of[e][0])[of[e][1]] {
			l = append(l, e)
		}
	}
	slices.Sort(l)
	return l
}

// some returns at most n single edges of a graph, the first and the last one among them.
func some(r *rand.Rand, g api.Graph, n int) []int {
	size := len(ends(g))
	l := all(size)
	if size > n {
		l = append(r.Perm(size)[:n-2], 0, size-1)
	}
	return l
}
