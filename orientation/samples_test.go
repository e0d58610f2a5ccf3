package orientation_test

import (
	"math"
	"math/rand"
	"slices"
	"testing"

	"sandpile/api"
	"sandpile/orientation"
)

// edges is a short name for graphs.
func edges(n int, l ...api.Edge) api.Graph { return api.Graph{N: n, Edges: l} }

// edge is a short name for edges.
func edge(a, b, mult int) api.Edge { return api.Edge{A: a, B: b, Mult: mult} }

func triangle() api.Graph { return edges(3, edge(0, 1, 1), edge(0, 2, 1), edge(1, 2, 1)) }

// circle returns a cycle through n vertices, which are more than two; 0 is joined to 1 and to n - 1.
func circle(n int) api.Graph {
	g := edges(n, edge(0, 1, 1), edge(0, n-1, 1))
	for v := 1; v < n-1; v++ {
		g.Edges = append(g.Edges, edge(v, v+1, 1))
	}
	return g
}

// random returns a graph with n vertices, of which some pairs are joined.
func random(r *rand.Rand, n int, share float64, mult int) api.Graph {
	g := edges(n)
	for a := range n {
		for b := a; b < n; b++ {
			if r.Float64() < share {
				g.Edges = append(g.Edges, edge(a, b, 1+r.Intn(mult)))
			}
		}
	}
	return g
}

// full returns the graph in which every edge and every loop occurs some times.
func full(n, mult int) api.Graph {
	g := random(rand.New(rand.NewSource(1)), n, 2, 1)
	for i := range g.Edges {
		g.Edges[i].Mult = mult
	}
	return g
}

// complete returns the graph in which each vertex is joined to each other one.
func complete(n int) api.Graph {
	g := full(n, 1)
	g.Edges = slices.DeleteFunc(g.Edges, func(x api.Edge) bool { return x.A == x.B })
	return g
}

// small returns graphs with so few single edges that all orientations can be looked at.
func small() []api.Graph {
	l := []api.Graph{
		edges(1), edges(1, edge(0, 0, 1)), edges(1, edge(0, 0, 3)), edges(2), edges(2, edge(0, 1, 1)), edges(2, edge(0, 1, 2)), edges(2, edge(0, 1, 5)), edges(2, edge(0, 0, 2), edge(0, 1, 1), edge(1, 1, 1)), edges(2, edge(1, 1, 2)),
		edges(3), edges(12), edges(12, edge(11, 11, 4)), edges(12, edge(0, 11, 3)), triangle(), circle(4), circle(6), complete(4), full(2, 2), full(3, 1),
		edges(4, edge(0, 1, 1), edge(2, 3, 1)), edges(4, edge(0, 1, 2), edge(2, 3, 2)), edges(6, edge(0, 1, 1), edge(0, 2, 1), edge(1, 2, 1), edge(3, 4, 1), edge(3, 5, 1), edge(4, 5, 1)), edges(4, edge(0, 3, 1), edge(1, 3, 1), edge(2, 3, 1)),
		edges(3, edge(0, 1, 1), edge(1, 1, 1), edge(1, 2, 2)),
	}
	r := rand.New(rand.NewSource(50))
	for len(l) < 150 {
		g := random(r, 1+r.Intn(6), []float64{0.2, 0.3, 0.5}[r.Intn(3)], 1+r.Intn(2))
		if len(ends(g)) <= 7 {
			l = append(l, g)
		}
	}
	return l
}

// large returns graphs of any size.
func large() []api.Graph {
	l := []api.Graph{full(12, 1), full(12, api.MaxMult), full(5, 3), circle(12), complete(12), edges(1, edge(0, 0, api.MaxMult)), edges(2, edge(0, 1, api.MaxMult))}
	r := rand.New(rand.NewSource(51))
	for range 150 {
		l = append(l, random(r, 1+r.Intn(api.MaxVertices), []float64{0.1, 0.15, 0.2, 0.3, 0.9}[r.Intn(5)], []int{1, 2, 5, 50}[r.Intn(4)]))
	}
	return l
}

// sample is a graph with an orientation.
type sample struct {
	g api.Graph
	o []bool
}

// samples returns all orientations of small graphs, and some of others, acyclic ones among them.
func samples() []sample {
	var l []sample
	for _, g := range small() {
		for _, o := range listed(len(ends(g))) {
			l = append(l, sample{g, o})
		}
	}
	r := rand.New(rand.NewSource(52))
	for _, g := range large() {
		of := ends(g)
		for range 3 {
			l = append(l, sample{g, chance(r, len(of))})
			rank := r.Perm(g.N)
			o := make([]bool, len(of))
			for i, x := range of {
				o[i] = rank[x[0]] < rank[x[1]]
			}
			l = append(l, sample{g, o})
		}
	}
	return l
}

// listed returns all orientations of some single edges, in the order of the binary numbers.
func listed(size int) [][]bool {
	var l [][]bool
	for n := range 1 << size {
		var o []bool
		for i := range size {
			o = append(o, n>>(size-1-i)&1 == 1)
		}
		l = append(l, o)
	}
	return l
}

// chance returns a random list of bools.
func chance(r *rand.Rand, n int) []bool {
	var l []bool
	for range n {
		l = append(l, r.Intn(2) == 0)
	}
	return l
}

// faulty is a graph that is not in normal form, and the error.
type faulty struct {
	g api.Graph
	e api.Errno
}

func wrong() []faulty {
	return []faulty{
		{api.Graph{}, api.ErrRange}, {edges(-1), api.ErrRange}, {edges(13), api.ErrRange}, {edges(math.MinInt), api.ErrRange}, {edges(math.MaxInt), api.ErrRange}, {edges(1, edge(0, 1, 1)), api.ErrRange}, {edges(3, edge(-1, 0, 1)), api.ErrRange}, {edges(3, edge(0, 3, 1)), api.ErrRange}, {edges(3, edge(0, 1, 0)), api.ErrRange}, {edges(3, edge(0, 1, 51)), api.ErrRange}, {edges(3, edge(0, 1, math.MaxInt)), api.ErrRange}, {edges(3, edge(math.MinInt, math.MaxInt, 1)), api.ErrRange},
		{edges(3, edge(1, 0, 1)), api.ErrOrder}, {edges(3, edge(0, 1, 1), edge(0, 1, 1)), api.ErrOrder}, {edges(3, edge(0, 2, 1), edge(0, 1, 1)), api.ErrOrder}, {edges(3, edge(1, 0, 1), edge(0, 3, 1)), api.ErrOrder}, {edges(12, make([]api.Edge, 5000)...), api.ErrRange}, {edges(12, slices.Repeat([]api.Edge{edge(2, 3, 4)}, 5000)...), api.ErrOrder},
	}
}

// arguments are those of all functions: two orientations, a list of vertices, one of single edges, an order and a vertex.
type arguments struct {
	g                    api.Graph
	o, p                 []bool
	set, reversed, order []int
	q                    int
}

// results are what all functions return.
type results struct {
	bools map[string][][]bool
	ints  map[string][]int
	is    map[string]bool
	way   int
	e     map[string]api.Errno
}

// calls calls all functions.
func (x arguments) calls() results {
	r := results{bools: map[string][][]bool{}, ints: map[string][]int{}, is: map[string]bool{}, e: map[string]api.Errno{}}
	keep := func(name string) func(o []bool, e api.Errno) {
		return func(o []bool, e api.Errno) {
			if len(o) > 0 {
				r.bools[name] = [][]bool{o}
			}
			r.e[name] = e
		}
	}
	r.e["Check"] = orientation.Check(x.g, x.o)
	r.bools["All"], r.e["All"] = orientation.All(x.g)
	r.ints["Indegrees"], r.e["Indegrees"] = orientation.Indegrees(x.g, x.o)
	d, e := orientation.Divisor(x.g, x.o)
	r.ints["Divisor"], r.e["Divisor"] = d, e
	r.ints["Sources"], r.e["Sources"] = orientation.Sources(x.g, x.o)
	r.is["Acyclic"], r.ints["Acyclic"], r.e["Acyclic"] = orientation.Acyclic(x.g, x.o)
	keep("Order")(orientation.Order(x.g, x.order))
	r.bools["Unique"], r.e["Unique"] = orientation.Unique(x.g, x.q)
	r.way, r.e["Directed"] = orientation.Directed(x.g, x.o, x.set)
	keep("Reverse")(orientation.Reverse(x.g, x.o, x.reversed))
	r.is["Equivalent"], r.e["Equivalent"] = orientation.Equivalent(x.g, x.o, x.p)
	return r
}

// isZero tells whether the results of a function are zero values.
func (r results) isZero(name string) bool {
	return len(r.bools[name]) == 0 && len(r.ints[name]) == 0 && !r.is[name] && (name != "Directed" || r.way == 0)
}

// must returns what a function returns that has no error.
func must[T any](t *testing.T) func(x T, e api.Errno) T {
	return func(x T, e api.Errno) T {
		t.Helper()
		if e != api.OK {
			t.Fatalf("%v beside the error %d", x, e)
		}
		return x
	}
}

// agrees checks a list and an error.
func agrees[T comparable](t *testing.T, name string, what any, l []T, e api.Errno, want []T, error api.Errno) {
	t.Helper()
	if !slices.Equal(l, want) || e != error {
		t.Errorf("%s of %v: %v beside the error %d, want %v beside %d", name, what, l, e, want, error)
	}
}

// agreesLists checks lists and an error.
func agreesLists(t *testing.T, name string, what any, l [][]bool, e api.Errno, want [][]bool, error api.Errno) {
	t.Helper()
	if !slices.EqualFunc(l, want, slices.Equal) || e != error {
		t.Errorf("%s of %v: %v beside the error %d, want %v beside %d", name, what, l, e, want, error)
	}
}

// ends returns the ends of the single edges.
func ends(g api.Graph) [][2]int {
	var l [][2]int
	for _, x := range g.Edges {
		l = append(l, slices.Repeat([][2]int{{x.A, x.B}}, x.Mult)...)
	}
	return l
}

// arrows returns from where to where each single edge leads.
func (x sample) arrows() [][2]int {
	l := ends(x.g)
	for i, forward := range x.o {
		if !forward {
			l[i][0], l[i][1] = l[i][1], l[i][0]
		}
	}
	return l
}

// all returns the numbers from 0 to n - 1.
func all(n int) []int {
	var l []int
	for i := range n {
		l = append(l, i)
	}
	return l
}

// bits returns the bits of a number.
func bits(mask int) []int {
	var l []int
	for i := 0; mask>>i > 0; i++ {
		if mask>>i&1 == 1 {
			l = append(l, i)
		}
	}
	return l
}

// turned returns the list in which some elements are different.
func turned(o []bool, set []int) []bool {
	l := slices.Clone(o)
	for _, i := range set {
		l[i] = !l[i]
	}
	return l
}
