package lattice_test

import (
	"math"
	"math/big"
	"math/rand"
	"slices"
	"testing"

	"sandpile/api"
	"sandpile/lattice"
)

// edges is a short name for graphs.
func edges(n int, l ...api.Edge) api.Graph { return api.Graph{N: n, Edges: l} }

// edge is a short name for edges.
func edge(a, b, mult int) api.Edge { return api.Edge{A: a, B: b, Mult: mult} }

func triangle() api.Graph { return edges(3, edge(0, 1, 1), edge(0, 2, 1), edge(1, 2, 1)) }

// looped is a graph with the single edges 0-0, 0-1, 0-1, 0-2, 1-2, 2-3, 3-3 and 3-3.
func looped() api.Graph {
	return edges(4, edge(0, 0, 1), edge(0, 1, 2), edge(0, 2, 1), edge(1, 2, 1), edge(2, 3, 1), edge(3, 3, 2))
}

// crooked is a way through the vertices 1, 4, 2, 3, 0: its single edges are 0-3, 1-4, 2-3 and 2-4.
func crooked() api.Graph { return edges(5, edge(0, 3, 1), edge(1, 4, 1), edge(2, 3, 1), edge(2, 4, 1)) }

// star returns the graph in which a vertex is joined once to each other one.
func star(n, center int) api.Graph {
	g := edges(n)
	for v := range n {
		if v != center {
			g.Edges = append(g.Edges, edge(min(v, center), max(v, center), 1))
		}
	}
	return g
}

// chain returns the graph in which each vertex is joined with the next one some times.
func chain(mult ...int) api.Graph {
	g := edges(len(mult) + 1)
	for v, m := range mult {
		g.Edges = append(g.Edges, edge(v, v+1, m))
	}
	return g
}

// random returns a graph with n vertices, of which some pairs are joined.
func random(r *rand.Rand, n int, share float64, mult int) api.Graph {
	g := edges(n)
	for a := range n {
		for b := a; b < n; b++ {
			if r.Float64() < share {
				g.Edges = append(g.Edges, edge(a, b, 1+r.Intn(mult)))
			}
		}
	}
	return g
}

// full returns the graph in which every edge and every loop occurs some times.
func full(n, mult int) api.Graph {
	g := random(rand.New(rand.NewSource(1)), n, 2, 1)
	for i := range g.Edges {
		g.Edges[i].Mult = mult
	}
	return g
}

// whole returns connected graphs of up to 6 vertices.
func whole() []api.Graph {
	l := []api.Graph{
		edges(1), edges(1, edge(0, 0, 1)), edges(1, edge(0, 0, 3)), edges(2, edge(0, 1, 1)), edges(2, edge(0, 1, 5)), edges(2, edge(0, 0, 2), edge(0, 1, 1), edge(1, 1, 1)),
		triangle(), looped(), crooked(), star(6, 0), star(6, 4), chain(1, 1, 1, 1, 1), chain(2, 1, 3), full(2, 2), full(3, 1), full(6, 1), full(6, 3), full(4, 50),
	}
	r := rand.New(rand.NewSource(65))
	for len(l) < 200 {
		if g := random(r, 1+r.Intn(6), []float64{0.3, 0.5, 0.7}[r.Intn(3)], 1+r.Intn(3)); isWhole(g) {
			l = append(l, g)
		}
	}
	return l
}

// large returns connected graphs with more vertices.
func large() []api.Graph {
	l := []api.Graph{full(12, 1), full(12, api.MaxMult), star(12, 11), star(12, 0), chain(1, 1, 1, 1, 1, 1, 1, 1, 1, 1, 1), chain(50, 50, 50, 50, 50, 50, 50)}
	r := rand.New(rand.NewSource(66))
	for len(l) < 50 {
		if g := random(r, 7+r.Intn(6), []float64{0.2, 0.3, 0.5}[r.Intn(3)], []int{1, 2, 5, 50}[r.Intn(4)]); isWhole(g) {
			l = append(l, g)
		}
	}
	return l
}

// samples returns connected graphs.
func samples() []api.Graph { return append(whole(), large()...) }

// apart returns graphs that are not connected.
func apart() []api.Graph {
	return []api.Graph{
		edges(2), edges(12), edges(2, edge(0, 0, 1)), edges(2, edge(0, 0, 3), edge(1, 1, 2)), edges(3, edge(0, 1, 2)), edges(3, edge(1, 2, 50)), edges(3, edge(0, 2, 1), edge(1, 1, 1)), edges(4, edge(0, 1, 3), edge(2, 3, 3)), edges(4, edge(0, 2, 1), edge(1, 3, 1), edge(2, 2, 1)), edges(4, edge(0, 1, 1), edge(0, 2, 1), edge(1, 2, 1)),
		edges(12, full(11, 50).Edges...),
	}
}

// faulty is a graph that is not in normal form, or not connected, and the error.
type faulty struct {
	g api.Graph
	e api.Errno
}

func wrong() []faulty {
	return []faulty{
		{api.Graph{}, api.ErrRange}, {edges(-1), api.ErrRange}, {edges(13), api.ErrRange}, {edges(math.MinInt), api.ErrRange}, {edges(math.MaxInt), api.ErrRange}, {edges(1, edge(0, 1, 1)), api.ErrRange}, {edges(3, edge(-1, 0, 1)), api.ErrRange}, {edges(3, edge(0, 3, 1)), api.ErrRange}, {edges(3, edge(0, 1, 0)), api.ErrRange}, {edges(3, edge(0, 1, 51)), api.ErrRange}, {edges(3, edge(0, 1, math.MaxInt)), api.ErrRange}, {edges(3, edge(math.MinInt, math.MaxInt, 1)), api.ErrRange},
		{edges(3, edge(1, 0, 1)), api.ErrOrder}, {edges(3, edge(0, 1, 1), edge(0, 1, 1)), api.ErrOrder}, {edges(3, edge(0, 2, 1), edge(0, 1, 1)), api.ErrOrder}, {edges(3, edge(1, 0, 1), edge(0, 3, 1)), api.ErrOrder}, {edges(3, edge(0, 1, 1), edge(1, 2, 1), edge(0, 2, 1)), api.ErrOrder}, {edges(12, make([]api.Edge, 5000)...), api.ErrRange}, {edges(12, slices.Repeat([]api.Edge{edge(2, 3, 4)}, 5000)...), api.ErrOrder},
	}
}

// arguments are those of all functions: a vector, a potential, and vectors without a graph.
type arguments struct {
	g    api.Graph
	x, f []int
	l    [][]int
}

// results are what all functions return.
type results struct {
	lists  map[string][][]int
	fracs  [][]api.Frac
	ints   []api.Int
	kind   [2]bool
	number int
	gram   api.Matrix
	e      map[string]api.Errno
}

// calls calls all functions; Product gets the first and the last vector.
func (x arguments) calls() results {
	r := results{lists: map[string][][]int{}, e: map[string]api.Errno{}}
	keep := func(name string) func(l []int, e api.Errno) {
		return func(l []int, e api.Errno) {
			if len(l) > 0 {
				r.lists[name] = [][]int{l}
			}
			r.e[name] = e
		}
	}
	d, e := lattice.Boundary(x.g, x.x)
	keep("Boundary")(d, e)
	keep("Coboundary")(lattice.Coboundary(x.g, x.f))
	r.lists["Cycles"], r.e["Cycles"] = lattice.Cycles(x.g)
	r.lists["Cuts"], r.e["Cuts"] = lattice.Cuts(x.g)
	r.kind[0], r.kind[1], r.e["Kind"] = lattice.Kind(x.g, x.x)
	cycle, cut, e := lattice.Split(x.g, x.x)
	r.fracs, r.e["Split"] = [][]api.Frac{cycle, cut}, e
	ends := append(slices.Clone(x.l), nil, nil)
	r.number, r.e["Product"] = lattice.Product(ends[0], ends[max(len(x.l)-1, 0)])
	r.gram, r.e["Gram"] = lattice.Gram(x.l)
	r.ints, r.e["Discriminant"] = lattice.Discriminant(x.l)
	return r
}

// isZero tells whether the results of a function are zero values.
func (r results) isZero(name string) bool {
	switch name {
	case "Kind":
		return r.kind == [2]bool{}
	case "Split":
		return len(r.fracs[0]) == 0 && len(r.fracs[1]) == 0
	case "Product":
		return r.number == 0
	case "Gram":
		return r.gram.Rows == 0 && r.gram.Cols == 0 && len(r.gram.Cells) == 0
	case "Discriminant":
		return len(r.ints) == 0
	}
	return len(r.lists[name]) == 0
}

// must returns what a function returns that has no error.
func must[T any](t *testing.T) func(x T, e api.Errno) T {
	return func(x T, e api.Errno) T {
		t.Helper()
		if e != api.OK {
			t.Fatalf("%v beside the error %d", x, e)
		}
		return x
	}
}

// agrees checks a list and an error.
func agrees[T comparable](t *testing.T, name string, what any, l []T, e api.Errno, want []T, error api.Errno) {
	t.Helper()
	if !slices.Equal(l, want) || e != error {
		t.Errorf("%s of %.300v: %v beside the error %d, want %v beside %d", name, what, l, e, want, error)
	}
}

// agreesLists checks lists.
func agreesLists(t *testing.T, name string, what any, l [][]int, e api.Errno, want [][]int) {
	t.Helper()
	if !slices.EqualFunc(l, want, slices.Equal) || e != api.OK {
		t.Errorf("%s of %v: %v beside the error %d, want %v", name, what, l, e, want)
	}
}

// ends returns the ends of the single edges.
func ends(g api.Graph) [][2]int {
	var l [][2]int
	for _, x := range g.Edges {
		l = append(l, slices.Repeat([][2]int{{x.A, x.B}}, x.Mult)...)
	}
	return l
}

// isWhole tells whether a graph is connected.
func isWhole(g api.Graph) bool { return len(greedy(g)) == g.N-1 }

// greedy returns the single edges that each join what those before do not: the first spanning tree, if there is one.
func greedy(g api.Graph) []int {
	at := make([]int, g.N)
	for v := range at {
		at[v] = v
	}
	var l []int
	for e, x := range ends(g) {
		kept, other := at[x[0]], at[x[1]]
		if kept == other {
			continue
		}
		l = append(l, e)
		for v := range at {
			if at[v] == other {
				at[v] = kept
			}
		}
	}
	return l
}

// others returns the single edges that are not in a list.
func others(g api.Graph, l []int) []int {
	var rest []int
	for e := range ends(g) {
		if !slices.Contains(l, e) {
			rest = append(rest, e)
		}
	}
	return rest
}

// rats returns ints as rational numbers.
func rats(x []int) []*big.Rat {
	var l []*big.Rat
	for _, n := range x {
		l = append(l, big.NewRat(int64(n), 1))
	}
	return l
}

// isClosed tells whether the boundary of a vector is 0 everywhere.
func isClosed(g api.Graph, x []*big.Rat) bool {
	sums := rats(make([]int, g.N))
	for e, of := range ends(g) {
		sums[of[0]].Sub(sums[of[0]], x[e])
		sums[of[1]].Add(sums[of[1]], x[e])
	}
	return !slices.ContainsFunc(sums, func(n *big.Rat) bool { return n.Sign() != 0 })
}

// isDifference tells whether a vector of a connected graph is the coboundary of a potential: that which is 0 at 0, and grows along single edges to all others.
func isDifference(g api.Graph, x []*big.Rat) bool {
	f := make([]*big.Rat, g.N)
	f[0] = new(big.Rat)
	of := ends(g)
	for range g.N {
		for e, pair := range of {
			a, b := pair[0], pair[1]
			switch {
			case f[a] != nil && f[b] == nil:
				f[b] = new(big.Rat).Add(f[a], x[e])
			case f[a] == nil && f[b] != nil:
				f[a] = new(big.Rat).Sub(f[b], x[e])
			}
		}
	}
	for e, pair := range of {
		if new(big.Rat).Sub(f[pair[1]], f[pair[0]]).Cmp(x[e]) != 0 {
			return false
		}
	}
	return true
}

// some returns a random vector with numbers up to most.
func some(r *rand.Rand, n, most int) []int {
	x := make([]int, n)
	for i := range x {
		x[i] = r.Intn(2*most+1) - most
	}
	return x
}

// differences returns the coboundary of a potential.
func differences(g api.Graph, f []int) []int {
	var x []int
	for _, of := range ends(g) {
		x = append(x, f[of[1]]-f[of[0]])
	}
	return x
}

// sum returns the sum of vectors, each times a number.
func sum(n int, l [][]int, times []int) []int {
	all := make([]int, n)
	for i, x := range l {
		for e := range x {
			all[e] += times[i] * x[e]
		}
	}
	return all
}

// picked returns some elements of a list.
func picked(x []int, at []int) []int {
	var l []int
	for _, i := range at {
		l = append(l, x[i])
	}
	return l
}
