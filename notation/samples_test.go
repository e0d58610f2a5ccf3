package notation_test

import (
	"fmt"
	"math"
	"math/rand"
	"slices"
	"strings"
	"testing"

	"sandpile/api"
	"sandpile/graph"
)

// edges is a short name for graphs.
func edges(n int, l ...api.Edge) api.Graph { return api.Graph{N: n, Edges: l} }

// edge is a short name for edges.
func edge(a, b, mult int) api.Edge { return api.Edge{A: a, B: b, Mult: mult} }

// arcs is a short name for digraphs.
func arcs(n int, l ...api.Arc) api.Digraph { return api.Digraph{N: n, Arcs: l} }

// arc is a short name for arcs.
func arc(from, to, mult int) api.Arc { return api.Arc{From: from, To: to, Mult: mult} }

// around is a short name for ribbon graphs.
func around(g api.Graph, lists ...[]int) api.Ribbon { return api.Ribbon{Graph: g, Around: lists} }

// random returns a digraph in which some vertices are joined.
func random(r *rand.Rand, n int, share float64, mult int) api.Digraph {
	d := arcs(n)
	for a := range n {
		for b := range n {
			if r.Float64() < share {
				d.Arcs = append(d.Arcs, arc(a, b, 1+r.Intn(mult)))
			}
		}
	}
	return d
}

// undirected returns the graph of the arcs that lead upwards.
func undirected(d api.Digraph) api.Graph {
	g := edges(d.N)
	for _, x := range d.Arcs {
		if x.From <= x.To {
			g.Edges = append(g.Edges, edge(x.From, x.To, x.Mult))
		}
	}
	return g
}

// full returns the digraph with all arcs, each some times.
func full(n, mult int) api.Digraph {
	d := random(rand.New(rand.NewSource(1)), n, 2, 1)
	for i := range d.Arcs {
		d.Arcs[i].Mult = mult
	}
	return d
}

// digraphs returns right digraphs.
func digraphs() []api.Digraph {
	l := []api.Digraph{arcs(1), arcs(12), arcs(1, arc(0, 0, 1)), arcs(1, arc(0, 0, 50)), arcs(2, arc(0, 1, 1), arc(1, 0, 2)), arcs(2, arc(1, 0, 50)), arcs(12, arc(11, 0, 3), arc(11, 11, 2)), full(3, 1), full(12, 1), full(12, 50)}
	r := rand.New(rand.NewSource(2))
	for range 150 {
		l = append(l, random(r, 1+r.Intn(api.MaxVertices), []float64{0.1, 0.3, 0.9}[r.Intn(3)], []int{1, 2, 50}[r.Intn(3)]))
	}
	return l
}

// graphs returns graphs in normal form.
func graphs() []api.Graph {
	var l []api.Graph
	for _, d := range digraphs() {
		l = append(l, undirected(d))
	}
	return l
}

// ribbonGraphs returns graphs with lists of half-edges: some of them as they should be, others without order, with gaps and repeated ones.
func ribbonGraphs() []api.Ribbon {
	r := rand.New(rand.NewSource(3))
	var l []api.Ribbon
	for _, g := range graphs() {
		if len(l) > 80 {
			break
		}
		at := make([][]int, g.N)
		h := 0
		for _, x := range g.Edges {
			for range min(x.Mult, 3) {
				at[x.A], at[x.B] = append(at[x.A], h), append(at[x.B], h+1)
				h += 2
			}
		}
		l = append(l, around(g, at...))
		if h == 0 {
			continue
		}
		at = make([][]int, g.N)
		for range r.Intn(30) {
			v := r.Intn(g.N)
			at[v] = append(at[v], r.Intn(h))
		}
		l = append(l, around(g, at...))
	}
	return l
}

// lists returns words with right lists.
func lists() (words []string, l [][]int) {
	r := rand.New(rand.NewSource(4))
	for i := range 150 {
		var some []int
		for range []int{0, 1, 3, 20, 255, 256}[i%6] {
			some = append(some, []int{0, r.Intn(10), -r.Intn(10), r.Intn(1 << 21), -r.Intn(1 << 21), 1 << 20, -1 << 20}[r.Intn(7)])
		}
		for i, k := range some {
			some[i] = max(min(k, 1<<20), -1<<20)
		}
		words = append(words, []string{"divisor", "tree", "script", "a", strings.Repeat("z", api.MaxName)}[r.Intn(5)])
		l = append(l, some)
	}
	return words, l
}

// written returns the text of edges or arcs.
func written(word, sign string, n int, l []api.Arc) string {
	text := fmt.Sprintf("%s %d:", word, n)
	for _, x := range l {
		text += fmt.Sprintf(" %d%s%d*%d", x.From, sign, x.To, x.Mult)
	}
	return strings.TrimSuffix(strings.ReplaceAll(text+" ", "*1 ", " "), " ")
}

// arcsOf returns the edges of a graph as arcs.
func arcsOf(g api.Graph) []api.Arc {
	var l []api.Arc
	for _, x := range g.Edges {
		l = append(l, arc(x.A, x.B, x.Mult))
	}
	return l
}

// writtenInts returns the text of ints, with a blank before each one.
func writtenInts(l []int) string {
	return strings.Repeat(" ", min(len(l), 1)) + strings.Trim(fmt.Sprint(l), "[]")
}

// writtenRibbon returns the text of a ribbon graph.
func writtenRibbon(r api.Ribbon) string {
	var l []string
	for _, x := range r.Around {
		l = append(l, writtenInts(x))
	}
	return written("ribbon", "-", r.Graph.N, arcsOf(r.Graph)) + " ;" + strings.Join(l, " /")
}

// wrongGraph is a graph that is not in normal form, and the error.
type wrongGraph struct {
	g api.Graph
	e api.Errno
}

func wrongGraphs() []wrongGraph {
	return []wrongGraph{
		{api.Graph{}, api.ErrRange}, {edges(13), api.ErrRange}, {edges(math.MinInt), api.ErrRange}, {edges(3, edge(0, 3, 1)), api.ErrRange}, {edges(3, edge(0, 1, 0)), api.ErrRange}, {edges(3, edge(0, 1, 51)), api.ErrRange}, {edges(3, edge(1, 0, 1)), api.ErrOrder}, {edges(3, edge(0, 1, 1), edge(0, 1, 1)), api.ErrOrder}, {edges(3, edge(0, 2, 1), edge(0, 1, 1)), api.ErrOrder}, {edges(12, make([]api.Edge, 5000)...), api.ErrRange},
	}
}

// sameGraph tells whether two graphs are equal.
func sameGraph(g, h api.Graph) bool { return g.N == h.N && slices.Equal(g.Edges, h.Edges) }

// sameDigraph tells whether two digraphs are equal.
func sameDigraph(c, d api.Digraph) bool { return c.N == d.N && slices.Equal(c.Arcs, d.Arcs) }

// sameRibbon tells whether two ribbon graphs are equal.
func sameRibbon(q, r api.Ribbon) bool {
	return sameGraph(q.Graph, r.Graph) && slices.EqualFunc(q.Around, r.Around, slices.Equal)
}

// made returns the graph of some edges in any order.
func made(t *testing.T, n int, l []api.Arc) api.Graph {
	t.Helper()
	var ends [][2]int
	for _, x := range l {
		ends = append(ends, slices.Repeat([][2]int{{x.From, x.To}}, x.Mult)...)
	}
	g, e := graph.Make(n, ends)
	if e != api.OK {
		t.Fatalf("graph.Make of %v has the error %d", l, e)
	}
	return g
}

// split returns parts of edges or arcs in another order, and with their ends exchanged.
func split(r *rand.Rand, l []api.Arc, exchange bool) []api.Arc {
	var parts []api.Arc
	for _, x := range l {
		for x.Mult > 0 {
			part := arc(x.From, x.To, 1+r.Intn(x.Mult))
			if exchange && r.Intn(2) == 0 {
				part.From, part.To = part.To, part.From
			}
			x.Mult -= part.Mult
			parts = append(parts, part)
		}
	}
	r.Shuffle(len(parts), func(i, j int) { parts[i], parts[j] = parts[j], parts[i] })
	return parts
}
