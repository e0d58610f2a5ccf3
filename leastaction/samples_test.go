package leastaction_test

import (
	"fmt"
	"math"
	"math/rand"
	"slices"
	"testing"

	"sandpile/api"
	"sandpile/leastaction"
)

const most = api.MaxChips

// edges is a short name for graphs.
func edges(n int, l ...api.Edge) api.Graph { return api.Graph{N: n, Edges: l} }

// edge is a short name for edges.
func edge(a, b, mult int) api.Edge { return api.Edge{A: a, B: b, Mult: mult} }

// triangle is the graph of the examples.
func triangle() api.Graph { return edges(3, edge(0, 1, 1), edge(0, 2, 1), edge(1, 2, 1)) }

// pair returns two vertices that are joined some times.
func pair(mult int) api.Graph { return edges(2, edge(0, 1, mult)) }

// fork is the vertex 0, joined to 1 and to 2.
func fork() api.Graph { return edges(3, edge(0, 1, 1), edge(0, 2, 1)) }

// looped is a graph with the single edges 0-0, 0-1, 0-1, 0-2, 1-2, 2-3, 3-3 and 3-3.
func looped() api.Graph {
	return edges(4, edge(0, 0, 1), edge(0, 1, 2), edge(0, 2, 1), edge(1, 2, 1), edge(2, 3, 1), edge(3, 3, 2))
}

// full returns the graph in which every edge and every loop occurs some times.
func full(n, mult int) api.Graph {
	g := edges(n)
	for a := range n {
		for b := a; b < n; b++ {
			g.Edges = append(g.Edges, edge(a, b, mult))
		}
	}
	return g
}

// random returns a connected graph: each vertex is joined to one before it, and so are some other pairs.
func random(r *rand.Rand, n int, share float64, mult int) api.Graph {
	earlier := make([]int, n)
	for b := 1; b < n; b++ {
		earlier[b] = r.Intn(b)
	}
	g := edges(n)
	for _, x := range full(n, 1).Edges {
		if x.A < x.B && earlier[x.B] == x.A || r.Float64() < share {
			g.Edges = append(g.Edges, edge(x.A, x.B, 1+r.Intn(mult)))
		}
	}
	return g
}

// samples returns connected graphs of all kinds, with at most so many vertices.
func samples(largest int) []api.Graph {
	l := []api.Graph{
		edges(1), edges(1, edge(0, 0, 1)), edges(1, edge(0, 0, 50)), pair(1), pair(2), pair(50), edges(2, edge(0, 0, 2), edge(0, 1, 3), edge(1, 1, 1)),
		triangle(), fork(), looped(), full(3, 1), full(largest, 1), full(largest, 50),
	}
	r := rand.New(rand.NewSource(230))
	for len(l) < 80 {
		l = append(l, random(r, 1+r.Intn(largest), []float64{0, 0.2, 0.5, 0.9}[r.Intn(4)], []int{1, 2, 5, 50}[r.Intn(4)]))
	}
	return l
}

// valence returns the number of single edges that lead from a vertex to others.
func valence(g api.Graph, v int) int {
	n := 0
	for _, x := range g.Edges {
		if x.A != x.B && (x.A == v || x.B == v) {
			n += x.Mult
		}
	}
	return n
}

// some returns a random configuration: most vertices have a few chips more or less than they need to be unstable, and the sink may have debts.
func some(r *rand.Rand, g api.Graph, q, top int) api.Divisor {
	d := make(api.Divisor, g.N)
	for v := range d {
		d[v] = max(0, valence(g, v)-1+r.Intn(3)-r.Intn(2)*r.Intn(valence(g, v)+1))
		if r.Intn(4) == 0 {
			d[v] = r.Intn(top + 1)
		}
	}
	d[q] = r.Intn(2*top+1) - top
	return d
}

// behind returns the chips behind a script, whatever its numbers are.
func behind(g api.Graph, d api.Divisor, s api.Script) api.Divisor {
	d = slices.Clone(d)
	for v, times := range s {
		for _, x := range g.Edges {
			for _, way := range [][2]int{{x.A, x.B}, {x.B, x.A}} {
				if way[0] == v && x.A != x.B {
					d[v] -= times * x.Mult
					d[way[1]] += times * x.Mult
				}
			}
		}
	}
	return d
}

// unstable returns the vertices that have as many chips as their valences are.
func unstable(g api.Graph, q int, d api.Divisor) []int {
	var l []int
	for v, k := range d {
		if v != q && k >= valence(g, v) {
			l = append(l, v)
		}
	}
	return l
}

// stabilizing tells whether a script is stabilizing.
func stabilizing(g api.Graph, q int, d api.Divisor, s api.Script) bool {
	return slices.Min(s) >= 0 && s[q] == 0 && len(unstable(g, q, behind(g, d, s))) == 0
}

// plus returns a script in which some vertices fire some times more.
func plus(s api.Script, times int, set ...int) api.Script {
	more := slices.Clone(s)
	for _, v := range set {
		more[v] += times
	}
	return more
}

// above returns a stabilizing script with numbers that are at least those of another script, which is 0 at the sink: vertices are fired as long as they are unstable.
func above(g api.Graph, q int, d api.Divisor, s api.Script) api.Script {
	s = slices.Clone(s)
	for {
		l := unstable(g, q, behind(g, d, s))
		if len(l) == 0 {
			return s
		}
		s = plus(s, 1, l...)
	}
}

// someStabilizing returns a random stabilizing script.
func someStabilizing(r *rand.Rand, g api.Graph, q int, d api.Divisor, top int) api.Script {
	s := make(api.Script, g.N)
	for v := range s {
		if v != q && r.Intn(3) > 0 {
			s[v] = r.Intn(top + 1)
		}
	}
	return above(g, q, d, s)
}

// sets returns all sets of n vertices that are not empty.
func sets(n int) [][]int {
	var l [][]int
	for number := 1; number < 1<<n; number++ {
		var set []int
		for v := range n {
			if number>>v&1 == 1 {
				set = append(set, v)
			}
		}
		l = append(l, set)
	}
	return l
}

// removable returns the sets that can be taken away from a stabilizing script, and the union of them.
func removable(g api.Graph, q int, d api.Divisor, s api.Script) ([][]int, []int) {
	var l [][]int
	var union []int
	for _, set := range sets(g.N) {
		if slices.Min(plus(s, -1, set...)) >= 0 && stabilizing(g, q, d, plus(s, -1, set...)) {
			l, union = append(l, set), append(union, set...)
		}
	}
	slices.Sort(union)
	return l, slices.Compact(union)
}

// scriptsUpTo yields the scripts that are nowhere greater than another one, and not negative.
func scriptsUpTo(s api.Script, yield func(api.Script)) {
	x := make(api.Script, len(s))
	for {
		yield(x)
		v := 0
		for v < len(s) && x[v] == s[v] {
			x[v] = 0
			v++
		}
		if v == len(s) {
			return
		}
		x[v]++
	}
}

// number returns how many scripts are nowhere greater than another one, or a great number.
func number(s api.Script) int {
	n := 1
	for _, times := range s {
		if n *= times + 1; n > most {
			return most
		}
	}
	return n
}

// arguments are those of all functions.
type arguments struct {
	g    api.Graph
	q    int
	d    api.Divisor
	s, t api.Script
}

// results are what all functions return.
type results struct {
	lists map[string][]int
	sets  int
	bools map[string]bool
	e     map[string]api.Errno
}

// calls calls all functions.
func (x arguments) calls() results {
	r := results{lists: map[string][]int{}, bools: map[string]bool{}, e: map[string]api.Errno{}}
	r.bools["Stabilizing"], r.e["Stabilizing"] = leastaction.Stabilizing(x.g, x.q, x.d, x.s)
	r.lists["Witness"], r.e["Witness"] = leastaction.Witness(x.g, x.q, x.d, x.s)
	r.e["Verify"] = leastaction.Verify(x.g, x.q, x.d, x.s)
	s, n, e := leastaction.Descend(x.g, x.q, x.d, x.s)
	r.lists["Descend"], r.sets, r.e["Descend"] = s, n, e
	s, e = leastaction.Meet(x.g, x.s, x.t)
	r.lists["Meet"], r.e["Meet"] = s, e
	r.lists["Legal"], r.bools["Legal"], r.e["Legal"] = leastaction.Legal(x.g, x.q, x.d, x.s)
	return r
}

// withSink are the functions that get a configuration.
func withSink() []string { return []string{"Stabilizing", "Witness", "Verify", "Descend", "Legal"} }

// isZero tells whether the results of a function are zero values.
func (r results) isZero(name string) bool {
	return len(r.lists[name]) == 0 && !r.bools[name] && (name != "Descend" || r.sets == 0)
}

// expect checks that functions have an error, and no result beside it.
func (r results) expect(t *testing.T, names []string, what any, want api.Errno) {
	t.Helper()
	for _, name := range names {
		if e, ok := r.e[name]; !ok || e != want || e != api.OK && !r.isZero(name) {
			t.Errorf("%s of %s has the error %d, want %d", name, short(what), e, want)
		}
	}
}

// agrees checks a list and an error.
func agrees[L ~[]int](t *testing.T, name string, what any, l L, e api.Errno, want L, error api.Errno) {
	t.Helper()
	if !slices.Equal(l, want) || e != error {
		t.Errorf("%s of %s: %s beside the error %d, want %s beside %d", name, short(what), short(l), e, short(want), error)
	}
}

// agreesTruth checks a truth and an error.
func agreesTruth(t *testing.T, name string, what any, x bool, e api.Errno, want bool, error api.Errno) {
	t.Helper()
	if x != want || e != error {
		t.Errorf("%s of %s: %v beside the error %d, want %v beside %d", name, short(what), x, e, want, error)
	}
}

// short returns the beginning of what is printed for a value.
func short(what any) string {
	text := fmt.Sprint(what)
	return text[:min(len(text), 300)]
}

// outOfRange returns scripts on the triangle that are none, and their errors.
func outOfRange() map[api.Errno][]api.Script {
	return map[api.Errno][]api.Script{
		api.ErrShape: {nil, {}, {0, 0}, {0, 0, 0, 0}, {0, most + 1}, {0, -1, math.MaxInt, 0}, make(api.Script, 12), make(api.Script, 5000)},
		api.ErrRange: {{0, most + 1, 0}, {most + 1, 0, 0}, {0, 0, -most - 1}, {math.MinInt, 0, 0}, {0, math.MaxInt, 0}, {-1, most + 1, -1}},
	}
}
