package graph_test

import (
	"math"
	"math/rand"
	"slices"
	"testing"

	"sandpile/api"
	"sandpile/graph"
)

// Tests of P8.3, and of P1 for package graph.

func TestDegrees(t *testing.T) {
	is := must[int](t)
	for _, g := range samples() {
		total := 0
		for v := range g.N {
			total += is(graph.Degree(g, v))
			if loops := is(graph.Between(g, v, v)); is(graph.Degree(g, v)) != is(graph.Valence(g, v))+2*loops {
				t.Errorf("the degree of %d in %v is not its valence and %d loops twice", v, g, loops)
			}
		}
		if total != 2*is(graph.Size(g)) {
			t.Errorf("the degrees of %v add up to %d", g, total)
		}
	}
}

func TestMadeAgain(t *testing.T) {
	for _, g := range samples() {
		again, e := graph.Make(g.N, must[[][2]int](t)(graph.Ends(g)))
		agrees(t, "Make", again, e, g, api.OK)
	}
}

func TestComplements(t *testing.T) {
	r := rand.New(rand.NewSource(20))
	is := must[int](t)
	for _, g := range samples() {
		for _, set := range sets(r, g) {
			var others []int
			degrees := 0
			for v := range g.N {
				if slices.Contains(set, v) {
					degrees += is(graph.Degree(g, v))
				} else {
					others = append(others, v)
				}
			}
			cut := must[[]int](t)(graph.Cut(g, set))
			same, e := graph.Cut(g, others)
			agreesList(t, "Cut", same, e, cut, api.OK)
			if len(set) == 0 {
				continue
			}
			inside := is(graph.Size(must[api.Graph](t)(graph.Induced(g, set))))
			if 2*inside+len(cut) != degrees {
				t.Errorf("%v in %v: %d single edges inside, %d in the cut, and the degrees %d", set, g, inside, len(cut), degrees)
			}
			if len(set) == g.N {
				whole, e := graph.Induced(g, set)
				agrees(t, "Induced", whole, e, g, api.OK)
			}
		}
	}
}

func TestOtherNumbers(t *testing.T) {
	r := rand.New(rand.NewSource(21))
	is := must[int](t)
	for _, g := range samples() {
		to, back := r.Perm(g.N), make([]int, g.N)
		for v, w := range to {
			back[w] = v
		}
		h := must[api.Graph](t)(graph.Relabel(g, to))
		if is(graph.Size(g)) != is(graph.Size(h)) || is(graph.Genus(g)) != is(graph.Genus(h)) {
			t.Errorf("%v and %v have other sizes or genera", g, h)
		}
		for v := range g.N {
			if is(graph.Degree(g, v)) != is(graph.Degree(h, to[v])) || is(graph.Valence(g, v)) != is(graph.Valence(h, to[v])) {
				t.Errorf("%d in %v has another degree than %d in %v", v, g, to[v], h)
			}
		}
		again, e := graph.Relabel(h, back)
		agrees(t, "Relabel", again, e, g, api.OK)
	}
}

// TestTotal calls every function with all kinds of arguments: a panic fails the test, and a result is either right or zero beside an error.
func TestTotal(t *testing.T) {
	r := rand.New(rand.NewSource(22))
	list := samples()
	for _, x := range wrong() {
		list = append(list, x.g)
	}
	sound := func(g api.Graph, e api.Errno) {
		t.Helper()
		if e == api.OK && graph.Check(g) != api.OK || e != api.OK && (g.N != 0 || len(g.Edges) > 0) {
			t.Errorf("%.300v beside the error %d", g, e)
		}
	}
	number := func(n int, e api.Errno) {
		t.Helper()
		if n < 0 || n > 3900 || e != api.OK && n != 0 {
			t.Errorf("%d beside the error %d", n, e)
		}
	}
	ascending := func(l []int, e api.Errno) {
		t.Helper()
		if !slices.IsSorted(l) || e != api.OK && len(l) > 0 {
			t.Errorf("%v beside the error %d", l, e)
		}
	}
	strange := []int{math.MinInt, math.MinInt + 1, -1, 0, 1, 2, 3, 11, 12, 13, 4096, math.MaxInt - 1, math.MaxInt}
	some := func() int { return strange[r.Intn(len(strange))] }
	for _, g := range list {
		number(graph.Size(g))
		number(graph.Genus(g))
		sound(graph.Loopless(g))
		sound(graph.Simple(g))
		if l, e := graph.Ends(g); e != api.OK && len(l) > 0 {
			t.Errorf("%v beside the error %d", l, e)
		}
		for _, v := range strange {
			number(graph.Degree(g, v))
			number(graph.Valence(g, v))
			number(graph.Between(g, v, some()))
			ascending(graph.Neighbours(g, v))
			l := make([]int, r.Intn(14))
			ends := make([][2]int, r.Intn(14))
			for i := range l {
				l[i] = some()
			}
			for i := range ends {
				ends[i] = [2]int{some(), r.Intn(12)}
			}
			graph.Subset(g, l)
			ascending(graph.Cut(g, l))
			sound(graph.Induced(g, l))
			sound(graph.Relabel(g, l))
			sound(graph.Make(v, ends))
			sound(graph.Make(g.N, ends))
		}
	}
}

// TestMemory changes results, and looks at the arguments and at other results.
func TestMemory(t *testing.T) {
	// The arguments have spare capacity, in which nothing may be written either.
	g := api.Graph{N: 4, Edges: append(make([]api.Edge, 0, 20), example().Edges...)}
	set, to := append(make([]int, 0, 9), 0, 1, 2, 3), append(make([]int, 0, 9), 0, 1, 2, 3)
	ends := append(make([][2]int, 0, 9), [2]int{3, 2}, [2]int{1, 0})
	var graphs []api.Graph
	keep := func(h api.Graph, e api.Errno) { graphs = append(graphs, must[api.Graph](t)(h, e)) }
	var lists [][]int
	keepList := func(l []int, e api.Errno) { lists = append(lists, must[[]int](t)(l, e)) }
	var pairs [][][2]int
	for range 2 {
		keep(graph.Make(4, ends))
		keep(graph.Induced(g, set))
		keep(graph.Relabel(g, to))
		keep(graph.Loopless(g))
		keep(graph.Simple(g))
		keepList(graph.Cut(g, set[:2]))
		keepList(graph.Neighbours(g, 2))
		pairs = append(pairs, must[[][2]int](t)(graph.Ends(g)))
		calls(g, 1, set, to)
	}
	for i, h := range graphs {
		before := clone(h)
		for j, other := range graphs {
			if j != i {
				for k := range other.Edges {
					other.Edges[k].Mult++
				}
				_ = append(other.Edges, api.Edge{A: 9})
			}
		}
		if !same(h, before) {
			t.Errorf("the graph %d changes with another one", i)
		}
	}
	for _, l := range lists {
		l[0]++
		_ = append(l, 9)
	}
	if !slices.Equal(lists[0], lists[2]) || !slices.Equal(lists[1], lists[3]) {
		t.Errorf("lists change with others: %v", lists)
	}
	pairs[0][0] = [2]int{9, 9}
	if pairs[1][0] != [2]int{0, 1} {
		t.Errorf("ends change with others: %v", pairs)
	}
	if !same(g, example()) || !slices.Equal(g.Edges[5:20], make([]api.Edge, 15)) {
		t.Errorf("the graph is now %v", g.Edges[:20])
	}
	if !slices.Equal(set[:9], []int{0, 1, 2, 3, 0, 0, 0, 0, 0}) || !slices.Equal(to[:9], []int{0, 1, 2, 3, 0, 0, 0, 0, 0}) || !slices.Equal(ends[:4], [][2]int{{3, 2}, {1, 0}, {}, {}}) {
		t.Errorf("the lists are now %v, %v and %v", set[:9], to[:9], ends[:9])
	}
}
