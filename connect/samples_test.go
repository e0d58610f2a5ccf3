package connect_test

import (
	"math"
	"math/rand"
	"slices"
	"testing"

	"sandpile/api"
	"sandpile/connect"
	"sandpile/graph"
)

// edges is a short name for graphs.
func edges(n int, l ...api.Edge) api.Graph { return api.Graph{N: n, Edges: l} }

// edge is a short name for edges.
func edge(a, b, mult int) api.Edge { return api.Edge{A: a, B: b, Mult: mult} }

// example is the graph of the examples.
func example() api.Graph {
	return edges(5, edge(0, 1, 1), edge(0, 2, 1), edge(1, 2, 1), edge(2, 3, 1), edge(3, 4, 2), edge(4, 4, 1))
}

// random returns a graph with n vertices, of which some pairs are joined.
func random(r *rand.Rand, n int, share float64, mult int) api.Graph {
	g := edges(n)
	for a := range n {
		for b := a; b < n; b++ {
			if r.Float64() < share {
				g.Edges = append(g.Edges, edge(a, b, 1+r.Intn(mult)))
			}
		}
	}
	return g
}

// full returns the graph in which every edge and every loop occurs some times.
func full(n, mult int) api.Graph {
	g := random(rand.New(rand.NewSource(1)), n, 2, 1)
	for i := range g.Edges {
		g.Edges[i].Mult = mult
	}
	return g
}

// circle returns a cycle through n vertices, which are more than two.
func circle(n int) api.Graph {
	g := edges(n, edge(0, 1, 1), edge(0, n-1, 1))
	for v := 1; v < n-1; v++ {
		g.Edges = append(g.Edges, edge(v, v+1, 1))
	}
	return g
}

// small returns graphs with so few single edges that all sets of them can be looked at.
func small() []api.Graph {
	l := []api.Graph{
		edges(1), edges(1, edge(0, 0, 1)), edges(1, edge(0, 0, 3)), edges(2), edges(2, edge(0, 1, 1)), edges(2, edge(0, 1, 2)), edges(2, edge(0, 1, 5)), edges(2, edge(0, 0, 2), edge(0, 1, 1), edge(1, 1, 1)), edges(2, edge(1, 1, 2)),
		edges(3), edges(12), edges(12, edge(11, 11, 4)), edges(12, edge(0, 11, 3)), example(), circle(3), circle(4), circle(7), full(2, 2), full(3, 1),
		// Two triangles with a common vertex, with a bridge between them, and side by side.
		edges(5, edge(0, 1, 1), edge(0, 2, 1), edge(1, 2, 1), edge(2, 3, 1), edge(2, 4, 1), edge(3, 4, 1)),
		edges(6, edge(0, 1, 1), edge(0, 2, 1), edge(0, 3, 1), edge(1, 2, 1), edge(3, 4, 1), edge(3, 5, 1), edge(4, 5, 1)),
		edges(6, edge(0, 2, 1), edge(0, 4, 1), edge(1, 3, 1), edge(1, 5, 1), edge(2, 4, 1), edge(3, 5, 1)),
		// A path with a loop inside, and a star with one at its centre.
		edges(3, edge(0, 1, 1), edge(1, 1, 2), edge(1, 2, 1)), edges(4, edge(0, 3, 1), edge(1, 3, 2), edge(2, 3, 1), edge(3, 3, 1)),
	}
	r := rand.New(rand.NewSource(2))
	for len(l) < 400 {
		g := random(r, 1+r.Intn(7), []float64{0.2, 0.3, 0.5}[r.Intn(3)], 1+r.Intn(2))
		if size, _ := graph.Size(g); size <= 9 {
			l = append(l, g)
		}
	}
	return l
}

// large returns graphs of any size.
func large() []api.Graph {
	l := []api.Graph{full(12, 1), full(12, api.MaxMult), full(5, 3), circle(12), edges(1, edge(0, 0, api.MaxMult)), edges(2, edge(0, 1, api.MaxMult))}
	r := rand.New(rand.NewSource(3))
	for range 200 {
		l = append(l, random(r, 1+r.Intn(api.MaxVertices), []float64{0.1, 0.15, 0.2, 0.3, 0.9}[r.Intn(5)], []int{1, 2, 5, 50}[r.Intn(4)]))
	}
	return l
}

// samples returns graphs in normal form.
func samples() []api.Graph { return append(small(), large()...) }

// faulty is a graph that is not in normal form, and the error.
type faulty struct {
	g api.Graph
	e api.Errno
}

func wrong() []faulty {
	return []faulty{
		{api.Graph{}, api.ErrRange}, {edges(-1), api.ErrRange}, {edges(13), api.ErrRange}, {edges(math.MinInt), api.ErrRange}, {edges(math.MaxInt), api.ErrRange}, {edges(1, edge(0, 1, 1)), api.ErrRange}, {edges(3, edge(-1, 0, 1)), api.ErrRange}, {edges(3, edge(0, 3, 1)), api.ErrRange}, {edges(3, edge(0, 1, 0)), api.ErrRange}, {edges(3, edge(0, 1, 51)), api.ErrRange}, {edges(3, edge(0, 1, math.MaxInt)), api.ErrRange}, {edges(3, edge(math.MinInt, math.MaxInt, 1)), api.ErrRange},
		{edges(3, edge(1, 0, 1)), api.ErrOrder}, {edges(3, edge(0, 1, 1), edge(0, 1, 1)), api.ErrOrder}, {edges(3, edge(0, 2, 1), edge(0, 1, 1)), api.ErrOrder}, {edges(3, edge(1, 0, 1), edge(0, 3, 1)), api.ErrOrder}, {edges(12, make([]api.Edge, 5000)...), api.ErrRange}, {edges(12, slices.Repeat([]api.Edge{edge(2, 3, 4)}, 5000)...), api.ErrOrder},
	}
}

// results are what all functions return.
type results struct {
	lists map[string][][]int
	bools map[string]bool
	size  int
	e     map[string]api.Errno
}

// calls calls all functions.
func calls(g api.Graph, l, set []int) results {
	x := results{lists: map[string][][]int{}, bools: map[string]bool{}, e: map[string]api.Errno{}}
	x.e["Edges"] = connect.Edges(g, l)
	keep := func(name string) func(l [][]int, e api.Errno) {
		return func(l [][]int, e api.Errno) { x.lists[name], x.e[name] = l, e }
	}
	keepOne := func(name string) func(l []int, e api.Errno) {
		return func(l []int, e api.Errno) {
			if len(l) > 0 {
				x.lists[name] = [][]int{l}
			}
			x.e[name] = e
		}
	}
	keepBool := func(name string) func(b bool, e api.Errno) {
		return func(b bool, e api.Errno) { x.bools[name], x.e[name] = b, e }
	}
	keep("Parts")(connect.Parts(g, l))
	keep("Components")(connect.Components(g))
	keepBool("Connected")(connect.Connected(g))
	keepOne("Bridges")(connect.Bridges(g))
	keepOne("Articulations")(connect.Articulations(g))
	keep("Blocks")(connect.Blocks(g))
	keepBool("Bond")(connect.Bond(g, set))
	n, found, e := connect.Connectivity(g)
	x.size = n
	keepOne("Connectivity")(found, e)
	return x
}

// isZero tells whether the results of a function are zero values.
func (x results) isZero(name string) bool {
	return len(x.lists[name]) == 0 && !x.bools[name] && (name != "Connectivity" || x.size == 0)
}

// must returns what a function returns that has no error.
func must[T any](t *testing.T) func(x T, e api.Errno) T {
	return func(x T, e api.Errno) T {
		t.Helper()
		if e != api.OK {
			t.Fatalf("%v beside the error %d", x, e)
		}
		return x
	}
}

// agrees checks a list and an error.
func agrees(t *testing.T, name string, g api.Graph, l []int, e api.Errno, want []int, error api.Errno) {
	t.Helper()
	if !slices.Equal(l, want) || e != error {
		t.Errorf("%s of %v: %v beside the error %d, want %v beside %d", name, g, l, e, want, error)
	}
}

// agreesLists checks lists and an error.
func agreesLists(t *testing.T, name string, g api.Graph, l [][]int, e api.Errno, want [][]int, error api.Errno) {
	t.Helper()
	if !slices.EqualFunc(l, want, slices.Equal) || e != error {
		t.Errorf("%s of %v: %v beside the error %d, want %v beside %d", name, g, l, e, want, error)
	}
}

// ends returns the ends of the single edges.
func ends(g api.Graph) [][2]int {
	var l [][2]int
	for _, x := range g.Edges {
		l = append(l, slices.Repeat([][2]int{{x.A, x.B}}, x.Mult)...)
	}
	return l
}

// all returns the numbers from 0 to n - 1.
func all(n int) []int {
	var l []int
	for i := range n {
		l = append(l, i)
	}
	return l
}

// subset returns the bits of a number.
func subset(mask int) []int {
	var l []int
	for i := 0; mask>>i > 0; i++ {
		if mask>>i&1 == 1 {
			l = append(l, i)
		}
	}
	return l
}

// reach tells which vertices of some are connected by single edges, by the closure of a relation.
func reach(ends [][2]int, vertices []int) map[[2]int]bool {
	r := map[[2]int]bool{}
	for _, v := range vertices {
		r[[2]int{v, v}] = true
	}
	for _, x := range ends {
		if slices.Contains(vertices, x[0]) && slices.Contains(vertices, x[1]) {
			r[[2]int{x[0], x[1]}], r[[2]int{x[1], x[0]}] = true, true
		}
	}
	for _, m := range vertices {
		for _, a := range vertices {
			for _, b := range vertices {
				if r[[2]int{a, m}] && r[[2]int{m, b}] {
					r[[2]int{a, b}] = true
				}
			}
		}
	}
	return r
}

// classes returns the classes of an equivalence of the numbers from 0 to n - 1.
func classes(n int, same func(a, b int) bool) [][]int {
	var l [][]int
	for v := range n {
		if i := slices.IndexFunc(l, func(c []int) bool { return same(c[0], v) }); i >= 0 {
			l[i] = append(l[i], v)
		} else {
			l = append(l, []int{v})
		}
	}
	return l
}

// cycles returns all sets of single edges that are cycles, as their bits.
func cycles(ends [][2]int) []int {
	var l []int
	for mask := 1; mask < 1<<len(ends); mask++ {
		var some [][2]int
		at := map[int]int{}
		for _, i := range subset(mask) {
			some = append(some, ends[i])
			at[ends[i][0]]++
			at[ends[i][1]]++
		}
		// In a circle there are as many vertices as edges, two ends come to each one, and they are connected.
		circle := len(at) == len(some)
		var vertices []int
		for v, n := range at {
			circle = circle && n == 2
			vertices = append(vertices, v)
		}
		if circle && len(reach(some, vertices)) == len(vertices)*len(vertices) {
			l = append(l, mask)
		}
	}
	return l
}
