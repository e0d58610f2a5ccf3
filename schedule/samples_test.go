package schedule_test

import (
	"fmt"
	"math"
	"math/rand"
	"slices"
	"testing"

	"sandpile/api"
	"sandpile/schedule"
	"sandpile/stabilize"
)

const most = api.MaxChips

// edges is a short name for graphs.
func edges(n int, l ...api.Edge) api.Graph { return api.Graph{N: n, Edges: l} }

// edge is a short name for edges.
func edge(a, b, mult int) api.Edge { return api.Edge{A: a, B: b, Mult: mult} }

// pick and drop are short names for events.
func pick(value int) schedule.Event { return schedule.Event{Kind: schedule.EventPick, Value: value} }

func drop(v int) schedule.Event { return schedule.Event{Kind: schedule.EventDrop, Value: v} }

// triangle is the graph of the examples.
func triangle() api.Graph { return edges(3, edge(0, 1, 1), edge(0, 2, 1), edge(1, 2, 1)) }

// pair returns two vertices that are joined some times.
func pair(mult int) api.Graph { return edges(2, edge(0, 1, mult)) }

// fork is the vertex 0, joined to 1 and to 2 some times.
func fork(one, two int) api.Graph { return edges(3, edge(0, 1, one), edge(0, 2, two)) }

// path returns the graph in which each vertex is joined some times to the next one.
func path(n, mult int) api.Graph {
	g := edges(n)
	for v := range n - 1 {
		g.Edges = append(g.Edges, edge(v, v+1, mult))
	}
	return g
}

// looped is a graph with the single edges 0-0, 0-1, 0-1, 0-2, 1-2, 2-3, 3-3 and 3-3.
func looped() api.Graph {
	return edges(4, edge(0, 0, 1), edge(0, 1, 2), edge(0, 2, 1), edge(1, 2, 1), edge(2, 3, 1), edge(3, 3, 2))
}

// full returns the graph in which every edge and every loop occurs some times.
func full(n, mult int) api.Graph {
	g := edges(n)
	for a := range n {
		for b := a; b < n; b++ {
			g.Edges = append(g.Edges, edge(a, b, mult))
		}
	}
	return g
}

// random returns a connected graph: each vertex is joined to one before it, and so are some other pairs.
func random(r *rand.Rand, n int, share float64, mult int) api.Graph {
	earlier := make([]int, n)
	for b := 1; b < n; b++ {
		earlier[b] = r.Intn(b)
	}
	g := edges(n)
	for _, x := range full(n, 1).Edges {
		if x.A < x.B && earlier[x.B] == x.A || r.Float64() < share {
			g.Edges = append(g.Edges, edge(x.A, x.B, 1+r.Intn(mult)))
		}
	}
	return g
}

// samples returns connected graphs of all kinds.
func samples() []api.Graph {
	l := []api.Graph{
		edges(1), edges(1, edge(0, 0, 1)), edges(1, edge(0, 0, 50)), pair(1), pair(2), pair(50), edges(2, edge(0, 0, 2), edge(0, 1, 3), edge(1, 1, 1)),
		triangle(), fork(1, 1), fork(3, 50), path(12, 1), looped(), full(3, 1), full(12, 1), full(12, 50),
	}
	r := rand.New(rand.NewSource(220))
	for len(l) < 80 {
		l = append(l, random(r, 1+r.Intn(api.MaxVertices), []float64{0, 0.2, 0.5, 0.9}[r.Intn(4)], []int{1, 2, 5, 50}[r.Intn(4)]))
	}
	return l
}

// valence returns the number of single edges that lead from a vertex to others.
func valence(g api.Graph, v int) int { return len(targets(g, v)) }

// targets returns the vertices to which a vertex sends chips, ascending, each for every single edge.
func targets(g api.Graph, v int) []int {
	var l []int
	for _, x := range g.Edges {
		if x.A == v && x.B != v {
			l = append(l, slices.Repeat([]int{x.B}, x.Mult)...)
		}
		if x.B == v && x.A != v {
			l = append(l, slices.Repeat([]int{x.A}, x.Mult)...)
		}
	}
	slices.Sort(l)
	return l
}

// some returns a random configuration: most vertices have a few chips more or less than they need to be unstable, and the sink may have debts.
func some(r *rand.Rand, g api.Graph, q, top int) api.Divisor {
	d := make(api.Divisor, g.N)
	for v := range d {
		d[v] = max(0, valence(g, v)-1+r.Intn(3)-r.Intn(2)*r.Intn(valence(g, v)+1))
		if r.Intn(4) == 0 {
			d[v] = r.Intn(top + 1)
		}
	}
	d[q] = r.Intn(2*top+1) - top
	return d
}

// somePicks returns random picks, of which many are greater than the number of choices.
func somePicks(r *rand.Rand) []int {
	l := make([]int, 1+r.Intn(20))
	for i := range l {
		l[i] = []int{0, r.Intn(4), r.Intn(1000), r.Int()}[r.Intn(4)]
	}
	return l
}

// someEvents returns a random schedule.
func someEvents(r *rand.Rand, g api.Graph) []schedule.Event {
	var l []schedule.Event
	for range r.Intn(100) {
		if r.Intn(3) == 0 {
			l = append(l, drop(r.Intn(g.N)))
		} else {
			l = append(l, pick(somePicks(r)[0]))
		}
	}
	return l
}

// state is that of a run, with the chips that are on their way, and the most of them that were so at once.
type state struct {
	to    [][]int // the vertices to which each vertex sends chips
	q     int
	d     api.Divisor
	s     api.Script
	chips []int
	most  int
}

// begin returns the state in which nothing has happened yet.
func begin(g api.Graph, q int, d api.Divisor) *state {
	x := &state{q: q, d: slices.Clone(d), s: make(api.Script, g.N)}
	for v := range g.N {
		x.to = append(x.to, targets(g, v))
	}
	return x
}

// unstable returns the vertices that may fire.
func (x *state) unstable() []int {
	var l []int
	for v, k := range x.d {
		if v != x.q && k >= len(x.to[v]) {
			l = append(l, v)
		}
	}
	return l
}

// fire lets a vertex fire, so that its chips are on their way.
func (x *state) fire(v int) {
	x.s[v]++
	x.d[v] -= len(x.to[v])
	x.chips = append(x.chips, x.to[v]...)
	x.most = max(x.most, len(x.chips))
}

// arrive lets all chips arrive.
func (x *state) arrive() {
	for _, v := range x.chips {
		x.d[v]++
	}
	x.chips = nil
}

// play plays a schedule, and returns who fires at each event.
func (x *state) play(l []schedule.Event) []int {
	var fired []int
	for _, event := range l {
		v := -1
		if l := x.unstable(); event.Kind == schedule.EventPick && len(l) > 0 {
			v = l[event.Value%len(l)]
			x.fire(v)
			x.arrive()
		}
		if event.Kind == schedule.EventDrop {
			x.d[event.Value]++
		}
		fired = append(fired, v)
	}
	return fired
}

// settle lets the picks choose until nothing is unstable, and returns how many of them are necessary.
func (x *state) settle(picks []int) int {
	for n := 0; ; n++ {
		l := x.unstable()
		if len(l) == 0 {
			return n
		}
		x.fire(l[picks[n%len(picks)]%len(l)])
		x.arrive()
	}
}

// drift does so, too, but chips are chosen as well.
func (x *state) drift(picks []int) int {
	for n := 0; ; n++ {
		l := x.unstable()
		if len(l)+len(x.chips) == 0 {
			return n
		}
		i := picks[n%len(picks)] % (len(l) + len(x.chips))
		if i < len(l) {
			x.fire(l[i])
			continue
		}
		i -= len(l)
		x.d[x.chips[i]]++
		x.chips = slices.Delete(x.chips, i, i+1)
	}
}

// picksOf returns the number of picks by which a configuration drifts: one for each vertex that fires, and one for each chip that arrives.
func picksOf(g api.Graph, q int, d api.Divisor) int {
	_, script, e := stabilize.Stabilize(g, q, d)
	if e != api.OK {
		return math.MaxInt
	}
	n := 0
	for v, times := range script {
		n += times * (1 + valence(g, v))
	}
	return n
}

// arguments are those of all functions.
type arguments struct {
	g     api.Graph
	q     int
	d     api.Divisor
	l     []schedule.Event
	picks []int
}

// results are what all functions return.
type results struct {
	lists map[string][]int
	most  int
	e     map[string]api.Errno
}

// calls calls all functions.
func (x arguments) calls() results {
	r := results{lists: map[string][]int{}, e: map[string]api.Errno{}}
	r.e["Check"] = schedule.Check(x.g, x.l)
	d, s, e := schedule.Run(x.g, x.q, x.d, x.l)
	r.lists["Run"], r.lists["Run, fired"], r.e["Run"] = d, s, e
	r.lists["Trace"], r.e["Trace"] = schedule.Trace(x.g, x.q, x.d, x.l)
	d, s, e = schedule.Settle(x.g, x.q, x.d, x.picks)
	r.lists["Settle"], r.lists["Settle, fired"], r.e["Settle"] = d, s, e
	d, s, r.most, e = schedule.Drift(x.g, x.q, x.d, x.picks)
	r.lists["Drift"], r.lists["Drift, fired"], r.e["Drift"] = d, s, e
	return r
}

// withSink, withEvents and withPicks are the functions that get a configuration, a schedule, or picks.
func withSink() []string { return []string{"Run", "Trace", "Settle", "Drift"} }

func withEvents() []string { return []string{"Check", "Run", "Trace"} }

func withPicks() []string { return []string{"Settle", "Drift"} }

// isZero tells whether the results of a function are zero values.
func (r results) isZero(name string) bool {
	return len(r.lists[name]) == 0 && len(r.lists[name+", fired"]) == 0 && (name != "Drift" || r.most == 0)
}

// expect checks that functions have an error, and no result beside it.
func (r results) expect(t *testing.T, names []string, what any, want api.Errno) {
	t.Helper()
	for _, name := range names {
		if e, ok := r.e[name]; !ok || e != want || e != api.OK && !r.isZero(name) {
			t.Errorf("%s of %s has the error %d, want %d", name, short(what), e, want)
		}
	}
}

// agrees checks a list and an error.
func agrees[L ~[]int](t *testing.T, name string, what any, l L, e api.Errno, want L, error api.Errno) {
	t.Helper()
	if !slices.Equal(l, want) || e != error {
		t.Errorf("%s of %s: %s beside the error %d, want %s beside %d", name, short(what), short(l), e, short(want), error)
	}
}

// short returns the beginning of what is printed for a value.
func short(what any) string {
	text := fmt.Sprint(what)
	return text[:min(len(text), 300)]
}

// outside returns numbers that are none of the n first ones.
func outside(n int) []int { return []int{-1, -2, n, n + 1, math.MinInt, math.MaxInt} }
