package stabilize_test

import (
	"fmt"
	"math"
	"math/rand"
	"slices"
	"testing"

	"sandpile/api"
	"sandpile/stabilize"
)

const most = api.MaxChips

// edges is a short name for graphs.
func edges(n int, l ...api.Edge) api.Graph { return api.Graph{N: n, Edges: l} }

// edge is a short name for edges.
func edge(a, b, mult int) api.Edge { return api.Edge{A: a, B: b, Mult: mult} }

// triangle is the graph of the examples.
func triangle() api.Graph { return edges(3, edge(0, 1, 1), edge(0, 2, 1), edge(1, 2, 1)) }

// pair returns two vertices that are joined some times.
func pair(mult int) api.Graph { return edges(2, edge(0, 1, mult)) }

// fork is the vertex 0, joined to 1 and to 2.
func fork() api.Graph { return edges(3, edge(0, 1, 1), edge(0, 2, 1)) }

// looped is a graph with the single edges 0-0, 0-1, 0-1, 0-2, 1-2, 2-3, 3-3 and 3-3.
func looped() api.Graph {
	return edges(4, edge(0, 0, 1), edge(0, 1, 2), edge(0, 2, 1), edge(1, 2, 1), edge(2, 3, 1), edge(3, 3, 2))
}

// path returns the graph in which each vertex is joined some times to the next one.
func path(n, mult int) api.Graph {
	g := edges(n)
	for v := range n - 1 {
		g.Edges = append(g.Edges, edge(v, v+1, mult))
	}
	return g
}

// full returns the graph in which every edge and every loop occurs some times.
func full(n, mult int) api.Graph {
	g := edges(n)
	for a := range n {
		for b := a; b < n; b++ {
			g.Edges = append(g.Edges, edge(a, b, mult))
		}
	}
	return g
}

// random returns a connected graph: each vertex is joined to one before it, and so are some other pairs.
func random(r *rand.Rand, n int, share float64, mult int) api.Graph {
	g := edges(n)
	earlier := make([]int, n)
	for b := 1; b < n; b++ {
		earlier[b] = r.Intn(b)
	}
	for a := range n {
		for b := a; b < n; b++ {
			if a < b && earlier[b] == a || r.Float64() < share {
				g.Edges = append(g.Edges, edge(a, b, 1+r.Intn(mult)))
			}
		}
	}
	return g
}

// samples returns connected graphs of all kinds.
func samples() []api.Graph {
	l := []api.Graph{
		edges(1), edges(1, edge(0, 0, 1)), edges(1, edge(0, 0, 50)), pair(1), pair(2), pair(50), edges(2, edge(0, 0, 2), edge(0, 1, 3), edge(1, 1, 1)),
		triangle(), fork(), looped(), path(4, 1), path(12, 1), path(12, 50), full(3, 1), full(12, 1), full(12, 50),
	}
	r := rand.New(rand.NewSource(190))
	for len(l) < 120 {
		l = append(l, random(r, 1+r.Intn(api.MaxVertices), []float64{0, 0.2, 0.5, 0.9}[r.Intn(4)], []int{1, 2, 5, 50}[r.Intn(4)]))
	}
	return l
}

// faulty is a graph that is not in normal form or not connected, and the error.
type faulty struct {
	g api.Graph
	e api.Errno
}

func wrong() []faulty {
	return []faulty{
		{api.Graph{}, api.ErrRange}, {edges(-1), api.ErrRange}, {edges(13), api.ErrRange}, {edges(math.MinInt), api.ErrRange}, {edges(math.MaxInt), api.ErrRange}, {edges(1, edge(0, 1, 1)), api.ErrRange}, {edges(3, edge(-1, 0, 1)), api.ErrRange}, {edges(3, edge(0, 3, 1)), api.ErrRange}, {edges(3, edge(0, 1, 0)), api.ErrRange}, {edges(3, edge(0, 1, 51)), api.ErrRange}, {edges(3, edge(0, 1, math.MaxInt)), api.ErrRange}, {edges(3, edge(math.MinInt, math.MaxInt, 1)), api.ErrRange},
		{edges(3, edge(1, 0, 1)), api.ErrOrder}, {edges(3, edge(0, 1, 1), edge(0, 1, 1)), api.ErrOrder}, {edges(3, edge(0, 2, 1), edge(0, 1, 1)), api.ErrOrder}, {edges(3, edge(1, 0, 1), edge(0, 3, 1)), api.ErrOrder}, {edges(3, edge(0, 1, 1), edge(1, 2, 1), edge(0, 2, 1)), api.ErrOrder}, {edges(12, slices.Repeat([]api.Edge{edge(2, 3, 4)}, 5000)...), api.ErrOrder},
		// These are in normal form; the error of the form comes before that of the parts.
		{edges(2), api.ErrParted}, {edges(2, edge(0, 0, 1), edge(1, 1, 1)), api.ErrParted}, {edges(3, edge(0, 1, 50)), api.ErrParted}, {edges(3, edge(1, 2, 1)), api.ErrParted}, {edges(4, edge(0, 1, 1), edge(2, 3, 1)), api.ErrParted}, {edges(12), api.ErrParted}, {path(12, 1), api.OK}, {edges(12, path(11, 2).Edges...), api.ErrParted}, {edges(3, edge(0, 1, 0), edge(1, 1, 1)), api.ErrRange}, {edges(3, edge(1, 0, 1), edge(1, 1, 1)), api.ErrOrder},
	}
}

// outside returns numbers that are none of the n first ones.
func outside(n int) []int { return []int{-1, -2, n, n + 1, math.MinInt, math.MaxInt} }

// valence returns the number of single edges that lead from a vertex to others.
func valence(g api.Graph, v int) int {
	n := 0
	for _, x := range g.Edges {
		if x.A != x.B && (x.A == v || x.B == v) {
			n += x.Mult
		}
	}
	return n
}

// some returns a random configuration: most vertices have a few chips more or less than they need to be unstable, and the sink may have debts.
func some(r *rand.Rand, g api.Graph, q, top int) api.Divisor {
	d := make(api.Divisor, g.N)
	for v := range d {
		d[v] = max(0, valence(g, v)-1+r.Intn(3)-r.Intn(2)*r.Intn(valence(g, v)+1))
		if r.Intn(4) == 0 {
			d[v] = r.Intn(top + 1)
		}
	}
	d[q] = r.Intn(2*top+1) - top
	return d
}

// unstable returns the vertices that may fire.
func unstable(g api.Graph, q int, d api.Divisor) []int {
	var l []int
	for v, k := range d {
		if v != q && k >= valence(g, v) {
			l = append(l, v)
		}
	}
	return l
}

// fired returns the divisor behind the firing of a vertex, whatever its numbers are.
func fired(g api.Graph, d api.Divisor, v int) api.Divisor {
	behind := slices.Clone(d)
	for _, x := range g.Edges {
		for _, way := range [][2]int{{x.A, x.B}, {x.B, x.A}} {
			if way[0] == v && x.A != x.B {
				behind[v] -= x.Mult
				behind[way[1]] += x.Mult
			}
		}
	}
	return behind
}

// toppled fires one of the unstable vertices after the other, as they are chosen, and returns the divisor behind them and who has fired; it gives up behind as many moves as there may be.
func toppled(g api.Graph, q int, d api.Divisor, choose func(l []int) int) (api.Divisor, []int, bool) {
	var moves []int
	for len(moves) <= api.MaxFirings {
		l := unstable(g, q, d)
		if len(l) == 0 {
			return d, moves, true
		}
		v := choose(l)
		d, moves = fired(g, d, v), append(moves, v)
	}
	return nil, nil, false
}

// least chooses the least vertex.
func least(l []int) int { return l[0] }

// count returns how often each of n vertices occurs.
func count(n int, moves []int) api.Script {
	s := make(api.Script, n)
	for _, v := range moves {
		s[v]++
	}
	return s
}

// plus returns a divisor with some more chips at a vertex.
func plus(d api.Divisor, v, k int) api.Divisor {
	more := slices.Clone(d)
	more[v] += k
	return more
}

// arguments are those of all functions.
type arguments struct {
	g api.Graph
	q int
	d api.Divisor
	v int
}

// results are what all functions return.
type results struct {
	lists map[string][]int
	ints  map[string]int
	bools map[string]bool
	e     map[string]api.Errno
}

// calls calls all functions.
func (x arguments) calls() results {
	r := results{lists: map[string][]int{}, ints: map[string]int{}, bools: map[string]bool{}, e: map[string]api.Errno{}}
	r.e["Check"] = stabilize.Check(x.g, x.q, x.d)
	r.lists["Unstable"], r.e["Unstable"] = stabilize.Unstable(x.g, x.q, x.d)
	r.bools["Stable"], r.e["Stable"] = stabilize.Stable(x.g, x.q, x.d)
	d, s, e := stabilize.Stabilize(x.g, x.q, x.d)
	r.lists["Stabilize"], r.lists["Stabilize, script"], r.e["Stabilize"] = d, s, e
	r.lists["Topple"], r.e["Topple"] = stabilize.Topple(x.g, x.q, x.d)
	d, s, n, e := stabilize.Avalanche(x.g, x.q, x.d, x.v)
	r.lists["Avalanche"], r.lists["Avalanche, script"], r.ints["Avalanche"], r.e["Avalanche"] = d, s, n, e
	v, n, e := stabilize.Largest(x.g, x.q, x.d)
	r.ints["Largest"], r.ints["Largest, size"], r.e["Largest"] = v, n, e
	d, e = stabilize.Maximal(x.g, x.q)
	r.lists["Maximal"], r.e["Maximal"] = d, e
	return r
}

// withDivisor are the functions that get a configuration.
func withDivisor() []string {
	return []string{"Check", "Unstable", "Stable", "Stabilize", "Topple", "Avalanche", "Largest"}
}

// isZero tells whether the results of a function are zero values.
func (r results) isZero(name string) bool {
	return len(r.lists[name]) == 0 && len(r.lists[name+", script"]) == 0 && r.ints[name] == 0 && r.ints[name+", size"] == 0 && !r.bools[name]
}

// expect checks that functions have an error, and no result beside it.
func (r results) expect(t *testing.T, names []string, what any, want api.Errno) {
	t.Helper()
	for _, name := range names {
		if e, ok := r.e[name]; !ok || e != want || e != api.OK && !r.isZero(name) {
			t.Errorf("%s of %s has the error %d, want %d", name, short(what), e, want)
		}
	}
}

// agrees checks a list and an error.
func agrees[L ~[]int](t *testing.T, name string, what any, l L, e api.Errno, want L, error api.Errno) {
	t.Helper()
	if !slices.Equal(l, want) || e != error {
		t.Errorf("%s of %s: %s beside the error %d, want %s beside %d", name, short(what), short(l), e, short(want), error)
	}
}

// must returns what a function returns that has no error.
func must[T any](t *testing.T) func(x T, e api.Errno) T {
	return func(x T, e api.Errno) T {
		t.Helper()
		if e != api.OK {
			t.Fatalf("%v beside the error %d", x, e)
		}
		return x
	}
}

// short returns the beginning of what is printed for a value.
func short(what any) string {
	text := fmt.Sprint(what)
	return text[:min(len(text), 300)]
}
