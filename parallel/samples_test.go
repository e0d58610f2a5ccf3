package parallel_test

import (
	"fmt"
	"math"
	"math/rand"
	"slices"
	"testing"

	"sandpile/api"
	"sandpile/parallel"
)

const most = api.MaxChips

// edges is a short name for graphs.
func edges(n int, l ...api.Edge) api.Graph { return api.Graph{N: n, Edges: l} }

// edge is a short name for edges.
func edge(a, b, mult int) api.Edge { return api.Edge{A: a, B: b, Mult: mult} }

// triangle is the graph of the examples.
func triangle() api.Graph { return edges(3, edge(0, 1, 1), edge(0, 2, 1), edge(1, 2, 1)) }

// pair returns two vertices that are joined some times.
func pair(mult int) api.Graph { return edges(2, edge(0, 1, mult)) }

// fork is the vertex 0, joined to 1 and to 2.
func fork() api.Graph { return edges(3, edge(0, 1, 1), edge(0, 2, 1)) }

// looped is a graph with the single edges 0-0, 0-1, 0-1, 0-2, 1-2, 2-3, 3-3 and 3-3.
func looped() api.Graph {
	return edges(4, edge(0, 0, 1), edge(0, 1, 2), edge(0, 2, 1), edge(1, 2, 1), edge(2, 3, 1), edge(3, 3, 2))
}

// path returns the graph in which each vertex is joined some times to the next one.
func path(n, mult int) api.Graph {
	g := edges(n)
	for v := range n - 1 {
		g.Edges = append(g.Edges, edge(v, v+1, mult))
	}
	return g
}

// tailed returns the graph in which the vertex 0 is joined to 1, and all other vertices are joined with each other as often as they may be: chips at 0 are passed on one by one, for many rounds.
func tailed(n int) api.Graph {
	g := edges(n, edge(0, 1, 1))
	for a := 1; a < n; a++ {
		for b := a + 1; b < n; b++ {
			g.Edges = append(g.Edges, edge(a, b, 50))
		}
	}
	return g
}

// full returns the graph in which every edge and every loop occurs some times.
func full(n, mult int) api.Graph {
	g := edges(n)
	for a := range n {
		for b := a; b < n; b++ {
			g.Edges = append(g.Edges, edge(a, b, mult))
		}
	}
	return g
}

// random returns a connected graph: each vertex is joined to one before it, and so are some other pairs.
func random(r *rand.Rand, n int, share float64, mult int) api.Graph {
	g := edges(n)
	earlier := make([]int, n)
	for b := 1; b < n; b++ {
		earlier[b] = r.Intn(b)
	}
	for a := range n {
		for b := a; b < n; b++ {
			if a < b && earlier[b] == a || r.Float64() < share {
				g.Edges = append(g.Edges, edge(a, b, 1+r.Intn(mult)))
			}
		}
	}
	return g
}

// samples returns connected graphs of all kinds.
func samples() []api.Graph {
	l := []api.Graph{
		edges(1), edges(1, edge(0, 0, 1)), edges(1, edge(0, 0, 50)), pair(1), pair(2), pair(50), edges(2, edge(0, 0, 2), edge(0, 1, 3), edge(1, 1, 1)),
		triangle(), fork(), looped(), path(4, 1), path(12, 1), path(12, 50), full(3, 1), full(12, 1), full(12, 50), tailed(5),
	}
	r := rand.New(rand.NewSource(210))
	for len(l) < 100 {
		l = append(l, random(r, 1+r.Intn(api.MaxVertices), []float64{0, 0.2, 0.5, 0.9}[r.Intn(4)], []int{1, 2, 5, 50}[r.Intn(4)]))
	}
	return l
}

// faulty is a graph that is not in normal form or not connected, and the error.
type faulty struct {
	g api.Graph
	e api.Errno
}

func wrong() []faulty {
	return []faulty{
		{api.Graph{}, api.ErrRange}, {edges(-1), api.ErrRange}, {edges(13), api.ErrRange}, {edges(math.MinInt), api.ErrRange}, {edges(math.MaxInt), api.ErrRange}, {edges(1, edge(0, 1, 1)), api.ErrRange}, {edges(3, edge(-1, 0, 1)), api.ErrRange}, {edges(3, edge(0, 3, 1)), api.ErrRange}, {edges(3, edge(0, 1, 0)), api.ErrRange}, {edges(3, edge(0, 1, 51)), api.ErrRange}, {edges(3, edge(math.MinInt, math.MaxInt, 1)), api.ErrRange},
		{edges(3, edge(1, 0, 1)), api.ErrOrder}, {edges(3, edge(0, 1, 1), edge(0, 1, 1)), api.ErrOrder}, {edges(3, edge(0, 2, 1), edge(0, 1, 1)), api.ErrOrder}, {edges(3, edge(0, 1, 1), edge(1, 2, 1), edge(0, 2, 1)), api.ErrOrder}, {edges(12, slices.Repeat([]api.Edge{edge(2, 3, 4)}, 5000)...), api.ErrOrder},
		// These are in normal form; the error of the form comes before that of the parts.
		{edges(2), api.ErrParted}, {edges(2, edge(0, 0, 1), edge(1, 1, 1)), api.ErrParted}, {edges(3, edge(0, 1, 50)), api.ErrParted}, {edges(3, edge(1, 2, 1)), api.ErrParted}, {edges(4, edge(0, 1, 1), edge(2, 3, 1)), api.ErrParted}, {edges(12), api.ErrParted}, {edges(12, path(11, 2).Edges...), api.ErrParted}, {edges(3, edge(0, 1, 0), edge(1, 1, 1)), api.ErrRange}, {edges(3, edge(1, 0, 1), edge(1, 1, 1)), api.ErrOrder},
	}
}

// faults returns lists that are no configurations on the triangle with the sink 0, and their errors.
func faults() map[api.Errno][]api.Divisor {
	return map[api.Errno][]api.Divisor{
		api.ErrShape: {nil, {}, {1, 1}, {1, 1, 1, 1}, make(api.Divisor, 13), make(api.Divisor, 5000), {0, most + 1}, {0, -1}, {most, most, most, most}},
		api.ErrRange: {{0, most + 1, 0}, {0, 0, most + 1}, {most + 1, 0, 0}, {-most - 1, 0, 0}, {0, math.MaxInt, 0}, {math.MinInt, 0, 0}, {0, 0, math.MinInt}, {0, -1, 0}, {0, 0, -1}, {0, -most, 0}, {5, 5, -1}, {most, most, -1}, {-1, -1, -1}},
	}
}

// outside returns numbers that are none of the n first ones.
func outside(n int) []int { return []int{-1, -2, n, n + 1, math.MinInt, math.MaxInt} }

// valence returns the number of single edges that lead from a vertex to others.
func valence(g api.Graph, v int) int {
	n := 0
	for _, x := range g.Edges {
		if x.A != x.B && (x.A == v || x.B == v) {
			n += x.Mult
		}
	}
	return n
}

// size returns the number of single edges that are no loops.
func size(g api.Graph) int {
	n := 0
	for v := range g.N {
		n += valence(g, v)
	}
	return n / 2
}

// some returns random chips: most vertices have a few more or less than they need to fire, and the sink may have debts.
func some(r *rand.Rand, g api.Graph, q, top int) api.Divisor {
	d := make(api.Divisor, g.N)
	for v := range d {
		d[v] = max(0, valence(g, v)-1+r.Intn(3)-r.Intn(2)*r.Intn(valence(g, v)+1))
		if r.Intn(4) == 0 {
			d[v] = r.Intn(top + 1)
		}
	}
	if q >= 0 {
		d[q] = r.Intn(2*top+1) - top
	}
	return d
}

// ready returns the vertices that fire in a round; without a sink (-1), those with the valence 0 do not.
func ready(g api.Graph, q int, d api.Divisor) []int {
	var l []int
	for v, k := range d {
		if v != q && k >= valence(g, v) && valence(g, v) > 0 {
			l = append(l, v)
		}
	}
	return l
}

// fired returns the divisor behind the firing of vertices, one after the other, whatever its numbers are.
func fired(g api.Graph, d api.Divisor, l []int) api.Divisor {
	behind := slices.Clone(d)
	for _, v := range l {
		for _, x := range g.Edges {
			for _, way := range [][2]int{{x.A, x.B}, {x.B, x.A}} {
				if way[0] == v && x.A != x.B {
					behind[v] -= x.Mult
					behind[way[1]] += x.Mult
				}
			}
		}
	}
	return behind
}

// played plays rounds, at most k of them, as long as vertices fire.
func played(g api.Graph, q int, d api.Divisor, k int) (api.Divisor, api.Script, int) {
	s, rounds := make(api.Script, g.N), 0
	for ; rounds < k; rounds++ {
		l := ready(g, q, d)
		if len(l) == 0 {
			break
		}
		d = fired(g, d, l)
		for _, v := range l {
			s[v]++
		}
	}
	return d, s, rounds
}

// fits returns a list with OK, or ErrLarge if one of its numbers is out of range.
func fits(d api.Divisor) (api.Divisor, api.Errno) {
	for _, k := range d {
		if k > most || k < -most {
			return nil, api.ErrLarge
		}
	}
	return d, api.OK
}

// game plays a closed game until a divisor occurs again, for however many rounds.
func game(g api.Graph, d api.Divisor) parallel.Game {
	var firings []int
	occurred := map[string]int{}
	for {
		text := fmt.Sprint(d)
		if before, again := occurred[text]; again {
			x := parallel.Game{Before: before, Period: len(firings) - before, Ends: firings[len(firings)-1] == 0}
			for _, n := range firings[before:] {
				x.Fired += n
			}
			return x
		}
		occurred[text] = len(firings)
		l := ready(g, -1, d)
		d, firings = fired(g, d, l), append(firings, len(l))
	}
}

// arguments are those of all functions.
type arguments struct {
	g    api.Graph
	q    int
	d    api.Divisor
	k, n int
}

// results are what all functions return.
type results struct {
	lists map[string][]int
	ints  map[string]int
	game  parallel.Game
	e     map[string]api.Errno
}

// calls calls all functions.
func (x arguments) calls() results {
	r := results{lists: map[string][]int{}, ints: map[string]int{}, e: map[string]api.Errno{}}
	d, l, e := parallel.Round(x.g, x.q, x.d)
	r.lists["Round"], r.lists["Round, fired"], r.e["Round"] = d, l, e
	d, s, n, e := parallel.Run(x.g, x.q, x.d)
	r.lists["Run"], r.lists["Run, fired"], r.ints["Run"], r.e["Run"] = d, s, n, e
	d, s, e = parallel.Rounds(x.g, x.q, x.d, x.k)
	r.lists["Rounds"], r.lists["Rounds, fired"], r.e["Rounds"] = d, s, e
	r.e["Check"] = parallel.Check(x.g, x.d)
	d, l, e = parallel.Closed(x.g, x.d)
	r.lists["Closed"], r.lists["Closed, fired"], r.e["Closed"] = d, l, e
	r.game, r.e["Play"] = parallel.Play(x.g, x.d)
	r.ints["Certain"], r.e["Certain"] = parallel.Certain(x.g, x.n)
	return r
}

// withSink and withoutSink are the functions of both kinds with a divisor.
func withSink() []string { return []string{"Round", "Run", "Rounds"} }

func withoutSink() []string { return []string{"Check", "Closed", "Play"} }

// isZero tells whether the results of a function are zero values.
func (r results) isZero(name string) bool {
	return len(r.lists[name]) == 0 && len(r.lists[name+", fired"]) == 0 && r.ints[name] == 0 && (name != "Play" || r.game == parallel.Game{})
}

// expect checks that functions have an error, and no result beside it.
func (r results) expect(t *testing.T, names []string, what any, want api.Errno) {
	t.Helper()
	for _, name := range names {
		if e, ok := r.e[name]; !ok || e != want || e != api.OK && !r.isZero(name) {
			t.Errorf("%s of %s has the error %d, want %d", name, short(what), e, want)
		}
	}
}

// agrees checks a list and an error.
func agrees[L ~[]int](t *testing.T, name string, what any, l L, e api.Errno, want L, error api.Errno) {
	t.Helper()
	if !slices.Equal(l, want) || e != error {
		t.Errorf("%s of %s: %s beside the error %d, want %s beside %d", name, short(what), short(l), e, short(want), error)
	}
}

// agreesValue checks a value and an error.
func agreesValue[T comparable](t *testing.T, name string, what any, x T, e api.Errno, want T, error api.Errno) {
	t.Helper()
	if x != want || e != error {
		t.Errorf("%s of %s: %v beside the error %d, want %v beside %d", name, short(what), x, e, want, error)
	}
}

// short returns the beginning of what is printed for a value.
func short(what any) string {
	text := fmt.Sprint(what)
	return text[:min(len(text), 300)]
}
