package firing_test

import (
	"fmt"
	"math"
	"math/rand"
	"slices"
	"testing"

	"sandpile/api"
	"sandpile/firing"
)

const most = api.MaxChips

// edges is a short name for graphs.
func edges(n int, l ...api.Edge) api.Graph { return api.Graph{N: n, Edges: l} }

// edge is a short name for edges.
func edge(a, b, mult int) api.Edge { return api.Edge{A: a, B: b, Mult: mult} }

// triangle is the graph of the examples.
func triangle() api.Graph { return edges(3, edge(0, 1, 1), edge(0, 2, 1), edge(1, 2, 1)) }

// looped is a graph with the single edges 0-0, 0-1, 0-1, 0-2, 1-2, 2-3, 3-3 and 3-3, and a vertex 4 with a loop that is joined to no other one.
func looped() api.Graph {
	return edges(5, edge(0, 0, 1), edge(0, 1, 2), edge(0, 2, 1), edge(1, 2, 1), edge(2, 3, 1), edge(3, 3, 2), edge(4, 4, 1))
}

// star returns the graph in which a vertex is joined some times to each other one.
func star(n, center, mult int) api.Graph {
	g := edges(n)
	for v := range n {
		if v != center {
			g.Edges = append(g.Edges, edge(min(v, center), max(v, center), mult))
		}
	}
	return g
}

// random returns a graph with n vertices, of which some pairs are joined.
func random(r *rand.Rand, n int, share float64, mult int) api.Graph {
	g := edges(n)
	for a := range n {
		for b := a; b < n; b++ {
			if r.Float64() < share {
				g.Edges = append(g.Edges, edge(a, b, 1+r.Intn(mult)))
			}
		}
	}
	return g
}

// full returns the graph in which every edge and every loop occurs some times.
func full(n, mult int) api.Graph {
	g := random(rand.New(rand.NewSource(1)), n, 2, 1)
	for i := range g.Edges {
		g.Edges[i].Mult = mult
	}
	return g
}

// samples returns graphs of all kinds.
func samples() []api.Graph {
	l := []api.Graph{
		edges(1), edges(1, edge(0, 0, 1)), edges(1, edge(0, 0, 50)), edges(2), edges(2, edge(0, 1, 1)), edges(2, edge(0, 1, 50)), edges(2, edge(0, 0, 2), edge(0, 1, 3), edge(1, 1, 1)), edges(12), edges(4, edge(0, 1, 3), edge(2, 3, 2)), edges(12, edge(0, 11, 50)),
		triangle(), looped(), star(5, 0, 1), star(5, 3, 2), star(12, 11, 50), full(3, 1), full(12, 1), full(12, 50),
	}
	r := rand.New(rand.NewSource(73))
	for len(l) < 150 {
		l = append(l, random(r, 1+r.Intn(api.MaxVertices), []float64{0.1, 0.3, 0.5, 0.9}[r.Intn(4)], []int{1, 2, 5, 50}[r.Intn(4)]))
	}
	return l
}

// faulty is a graph that is not in normal form, and the error.
type faulty struct {
	g api.Graph
	e api.Errno
}

func wrong() []faulty {
	return []faulty{
		{api.Graph{}, api.ErrRange}, {edges(-1), api.ErrRange}, {edges(13), api.ErrRange}, {edges(math.MinInt), api.ErrRange}, {edges(math.MaxInt), api.ErrRange}, {edges(1, edge(0, 1, 1)), api.ErrRange}, {edges(3, edge(-1, 0, 1)), api.ErrRange}, {edges(3, edge(0, 3, 1)), api.ErrRange}, {edges(3, edge(0, 1, 0)), api.ErrRange}, {edges(3, edge(0, 1, 51)), api.ErrRange}, {edges(3, edge(0, 1, math.MaxInt)), api.ErrRange}, {edges(3, edge(math.MinInt, math.MaxInt, 1)), api.ErrRange},
		{edges(3, edge(1, 0, 1)), api.ErrOrder}, {edges(3, edge(0, 1, 1), edge(0, 1, 1)), api.ErrOrder}, {edges(3, edge(0, 2, 1), edge(0, 1, 1)), api.ErrOrder}, {edges(3, edge(1, 0, 1), edge(0, 3, 1)), api.ErrOrder}, {edges(3, edge(0, 1, 1), edge(1, 2, 1), edge(0, 2, 1)), api.ErrOrder}, {edges(12, make([]api.Edge, 5000)...), api.ErrRange}, {edges(12, slices.Repeat([]api.Edge{edge(2, 3, 4)}, 5000)...), api.ErrOrder},
	}
}

// outside returns numbers that are none of the n first ones.
func outside(n int) []int { return []int{-1, -2, n, n + 1, math.MinInt, math.MaxInt} }

// some returns random ints from -top to top.
func some(r *rand.Rand, n, top int) []int {
	l := make([]int, n)
	for v := range l {
		l[v] = r.Intn(2*top+1) - top
	}
	return l
}

// sets returns all sets of the vertices of small graphs, and some of those of larger ones.
func sets(r *rand.Rand, n int) [][]int {
	masks := 1 << n
	l := [][]int{make([]int, 0), nil}
	for v := range n {
		l[0] = append(l[0], v)
	}
	for mask := range min(masks, 32) {
		if masks > 32 {
			mask = r.Intn(masks)
		}
		var set []int
		for v := range n {
			if mask>>v&1 == 1 {
				set = append(set, v)
			}
		}
		l = append(l, set)
	}
	return l
}

// ends returns the ends of the single edges that are no loops.
func ends(g api.Graph) [][2]int {
	var l [][2]int
	for _, x := range g.Edges {
		for range x.Mult {
			if x.A != x.B {
				l = append(l, [2]int{x.A, x.B})
			}
		}
	}
	return l
}

// moved returns a divisor behind the firing of each vertex as often as a script says, single edge by single edge, whatever its numbers are.
func moved(g api.Graph, d, s []int) api.Divisor {
	behind := slices.Clone(d)
	for _, x := range ends(g) {
		a, b := x[0], x[1]
		behind[a] -= s[a]
		behind[b] += s[a]
		behind[b] -= s[b]
		behind[a] += s[b]
	}
	return behind
}

// fits returns a list with OK, or ErrLarge if one of its numbers is out of range.
func fits(d api.Divisor) (api.Divisor, api.Errno) {
	for _, k := range d {
		if k > most || k < -most {
			return nil, api.ErrLarge
		}
	}
	return d, api.OK
}

// times returns the script of n vertices in which those of a set fire k times.
func times(n int, set []int, k int) api.Script {
	s := make(api.Script, n)
	for _, v := range set {
		s[v] = k
	}
	return s
}

// outgoing returns how many single edges lead from each vertex of a set out of it.
func outgoing(g api.Graph, set []int) map[int]int {
	l := map[int]int{}
	for _, x := range ends(g) {
		for _, way := range [][2]int{{x[0], x[1]}, {x[1], x[0]}} {
			if slices.Contains(set, way[0]) && !slices.Contains(set, way[1]) {
				l[way[0]]++
			}
		}
	}
	return l
}

// legal tells whether a set may fire legally.
func legal(g api.Graph, d api.Divisor, set []int) bool {
	leads := outgoing(g, set)
	for _, v := range set {
		if d[v] < leads[v] {
			return false
		}
	}
	return len(leads) > 0
}

// arguments are those of all functions.
type arguments struct {
	g          api.Graph
	d          api.Divisor
	s          api.Script
	v          int
	set, moves []int
}

// results are what all functions return.
type results struct {
	lists  map[string][]int
	sets   [][]int
	bools  map[string]bool
	number int
	e      map[string]api.Errno
}

// calls calls all functions.
func (x arguments) calls() results {
	r := results{lists: map[string][]int{}, bools: map[string]bool{}, e: map[string]api.Errno{}}
	keep := func(name string) func(d api.Divisor, e api.Errno) {
		return func(d api.Divisor, e api.Errno) { r.lists[name], r.e[name] = d, e }
	}
	r.e["Check"] = firing.Check(x.g, x.s)
	keep("Change")(firing.Change(x.g, x.s))
	keep("Apply")(firing.Apply(x.g, x.d, x.s))
	keep("Fire")(firing.Fire(x.g, x.d, x.v))
	keep("Borrow")(firing.Borrow(x.g, x.d, x.v))
	keep("FireSet")(firing.FireSet(x.g, x.d, x.set))
	r.bools["Legal"], r.e["Legal"] = firing.Legal(x.g, x.d, x.v)
	r.bools["LegalSet"], r.e["LegalSet"] = firing.LegalSet(x.g, x.d, x.set)
	d, n, e := firing.Play(x.g, x.d, x.moves)
	r.lists["Play"], r.number, r.e["Play"] = d, n, e
	s, e := firing.Count(x.g, x.moves)
	r.lists["Count"], r.e["Count"] = s, e
	r.sets, r.e["Sets"] = firing.Sets(x.g, x.s)
	return r
}

// isZero tells whether the results of a function are zero values.
func (r results) isZero(name string) bool {
	isIndex := r.e[name] == api.ErrLegal || r.e[name] == api.ErrLarge
	return len(r.lists[name]) == 0 && !r.bools[name] && (name != "Play" || r.number == 0 || isIndex) && (name != "Sets" || len(r.sets) == 0)
}

// withDivisor, withScript and withMoves are the functions with such arguments.
func withDivisor() []string {
	return []string{"Apply", "Fire", "Borrow", "FireSet", "Legal", "LegalSet", "Play"}
}

func withScript() []string { return []string{"Check", "Change", "Apply", "Sets"} }

func withMoves() []string { return []string{"Play", "Count"} }

// expect checks that functions have an error, and no result beside it.
func (r results) expect(t *testing.T, names []string, what any, want api.Errno) {
	t.Helper()
	for _, name := range names {
		if e, ok := r.e[name]; !ok || e != want || e != api.OK && !r.isZero(name) {
			t.Errorf("%s of %s has the error %d, want %d", name, short(what), e, want)
		}
	}
}

// agrees checks a list and an error.
func agrees[L ~[]int](t *testing.T, name string, what any, l L, e api.Errno, want L, error api.Errno) {
	t.Helper()
	if !slices.Equal(l, want) || e != error {
		t.Errorf("%s of %s: %v beside the error %d, want %v beside %d", name, short(what), l, e, want, error)
	}
}

// agreesOrLarge checks a divisor, which is too large if none is wanted.
func agreesOrLarge(t *testing.T, name string, what any, d api.Divisor, e api.Errno, want api.Divisor) {
	t.Helper()
	if want == nil {
		agrees(t, name, what, d, e, nil, api.ErrLarge)
		return
	}
	agrees(t, name, what, d, e, want, api.OK)
}

// must returns what a function returns that has no error.
func must[T any](t *testing.T) func(x T, e api.Errno) T {
	return func(x T, e api.Errno) T {
		t.Helper()
		if e != api.OK {
			t.Fatalf("%v beside the error %d", x, e)
		}
		return x
	}
}

// short returns the beginning of what is printed for a value.
func short(what any) string {
	text := fmt.Sprint(what)
	return text[:min(len(text), 300)]
}
