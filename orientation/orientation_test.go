package orientation_test

import (
	"math"
	"math/rand"
	"slices"
	"testing"

	"sandpile/api"
	"sandpile/orientation"
)

// Tests of P14.1.

// TestGraphError calls all functions with graphs that are not in normal form: their error comes before that of any other argument.
func TestGraphError(t *testing.T) {
	for _, x := range wrong() {
		for _, o := range [][]bool{nil, {true}, {false, true, true}, make([]bool, 5000)} {
			for _, l := range [][]int{nil, {0}, {0, 1, 2}, {-1}, {1, 1}, {math.MaxInt}} {
				got := arguments{x.g, o, nil, l, l, l, len(l) - 1}.calls()
				if len(got.e) != 11 {
					t.Fatalf("%d functions are called", len(got.e))
				}
				for name, e := range got.e {
					if e != x.e || !got.isZero(name) {
						t.Errorf("%s of %.200v has the error %d, want %d", name, x.g, e, x.e)
					}
				}
			}
		}
	}
}

// TestWrongLength takes lists with too few and too many elements: this error comes before those of other arguments, but behind that of the graph.
func TestWrongLength(t *testing.T) {
	for _, g := range append(small(), large()...) {
		size := len(ends(g))
		for _, n := range []int{0, 1, size - 1, size + 1, 2 * size, 5000} {
			if n == size || n < 0 {
				continue
			}
			for _, set := range [][]int{nil, {0}, {-1}, {1, 0}, {math.MaxInt}, {0, 0}} {
				got := arguments{g: g, o: make([]bool, n), p: make([]bool, size), set: set, reversed: set}.calls()
				for _, name := range []string{"Check", "Indegrees", "Divisor", "Sources", "Acyclic", "Directed", "Reverse", "Equivalent"} {
					if got.e[name] != api.ErrShape || !got.isZero(name) {
						t.Errorf("%s of %d elements in %v has the error %d", name, n, g, got.e[name])
					}
				}
			}
			// The second orientation is wrong, and both are.
			for _, first := range [][]bool{make([]bool, size), make([]bool, n)} {
				if is, e := orientation.Equivalent(g, first, make([]bool, n)); is || e != api.ErrShape {
					t.Errorf("Equivalent of %d and %d elements in %v: %t beside the error %d", len(first), n, g, is, e)
				}
			}
		}
	}
	for _, o := range [][]bool{nil, {}} {
		for _, g := range []api.Graph{edges(1), edges(12)} {
			if e := orientation.Check(g, o); e != api.OK {
				t.Errorf("%v in %v has the error %d", o, g, e)
			}
		}
		for _, g := range []api.Graph{edges(1, edge(0, 0, 1)), triangle()} {
			if e := orientation.Check(g, o); e != api.ErrShape {
				t.Errorf("%v in %v has the error %d", o, g, e)
			}
		}
	}
}

func TestCheck(t *testing.T) {
	for _, x := range samples() {
		if e := orientation.Check(x.g, x.o); e != api.OK {
			t.Errorf("%v has the error %d", x, e)
		}
	}
}

func TestAll(t *testing.T) {
	for _, g := range small() {
		l, e := orientation.All(g)
		agreesLists(t, "All", g, l, e, listed(len(ends(g))), api.OK)
	}
	l, e := orientation.All(triangle())
	agreesLists(t, "All", "the triangle", l, e, [][]bool{{false, false, false}, {false, false, true}, {false, true, false}, {false, true, true}, {true, false, false}, {true, false, true}, {true, true, false}, {true, true, true}}, api.OK)
	l, e = orientation.All(edges(12))
	agreesLists(t, "All", "no single edges", l, e, [][]bool{nil}, api.OK)
	l, e = orientation.All(edges(1, edge(0, 0, 1)))
	agreesLists(t, "All", "a loop", l, e, [][]bool{{false}, {true}}, api.OK)
}

// TestAllLimit takes graphs with exactly MaxFound orientations, and with more.
func TestAllLimit(t *testing.T) {
	for _, g := range []api.Graph{edges(2, edge(0, 1, 14)), edges(1, edge(0, 0, 14)), edges(12, edge(0, 1, 7), edge(10, 11, 7)), edges(6, append(complete(5).Edges, edge(4, 5, 4))...)} {
		l, e := orientation.All(g)
		if len(l) != api.MaxFound {
			t.Errorf("All of %v: %d orientations", g, len(l))
		}
		agreesLists(t, "All", g, l, e, listed(14), api.OK)
	}
	graphs := []api.Graph{edges(2, edge(0, 1, 15)), edges(1, edge(0, 0, 15)), edges(12, edge(0, 1, 7), edge(10, 11, 8)), complete(6)}
	for _, mult := range []int{16, 31, 32, 33, 50} {
		graphs = append(graphs, edges(1, edge(0, 0, mult)))
	}
	for _, mult := range []int{13, 14, 49, 50} { // with up to 64 single edges, and more
		graphs = append(graphs, edges(3, edge(0, 1, 50), edge(1, 2, mult)))
	}
	for _, g := range append(graphs, full(12, 50), full(12, 1)) {
		l, e := orientation.All(g)
		agreesLists(t, "All", g, l, e, nil, api.ErrLimit)
	}
}

func TestIndegrees(t *testing.T) {
	for _, x := range samples() {
		want := make([]int, x.g.N)
		for _, a := range x.arrows() {
			want[a[1]]++
		}
		l, e := orientation.Indegrees(x.g, x.o)
		agrees(t, "Indegrees", x, l, e, want, api.OK)
		var none []int
		for v, n := range want {
			if n == 0 {
				none = append(none, v)
			}
			want[v]--
		}
		l, e = orientation.Sources(x.g, x.o)
		agrees(t, "Sources", x, l, e, none, api.OK)
		d, e := orientation.Divisor(x.g, x.o)
		agrees(t, "Divisor", x, d, e, want, api.OK)
	}
}

func TestIndegreesByHand(t *testing.T) {
	for _, x := range []struct {
		g       api.Graph
		o       []bool
		in      []int
		sources []int
	}{
		{triangle(), []bool{true, true, true}, []int{0, 1, 2}, []int{0}}, {triangle(), []bool{true, false, true}, []int{1, 1, 1}, nil}, {triangle(), []bool{false, true, false}, []int{1, 1, 1}, nil}, {triangle(), []bool{false, false, true}, []int{2, 0, 1}, []int{1}}, {triangle(), []bool{true, true, false}, []int{0, 2, 1}, []int{0}},
		// Several sources, and vertices without single edges.
		{edges(4, edge(0, 1, 1), edge(2, 3, 1)), []bool{true, false}, []int{0, 1, 1, 0}, []int{0, 3}}, {edges(3), nil, []int{0, 0, 0}, []int{0, 1, 2}}, {edges(1), nil, []int{0}, []int{0}}, {edges(4, edge(0, 3, 1), edge(1, 3, 1), edge(2, 3, 1)), []bool{true, true, true}, []int{0, 0, 0, 3}, []int{0, 1, 2}},
		// A loop leads to its vertex once, in both directions.
		{edges(1, edge(0, 0, 1)), []bool{true}, []int{1}, nil}, {edges(1, edge(0, 0, 1)), []bool{false}, []int{1}, nil}, {edges(1, edge(0, 0, 3)), []bool{false, true, false}, []int{3}, nil}, {edges(2, edge(0, 0, 2), edge(0, 1, 1)), []bool{true, false, true}, []int{2, 1}, nil}, {edges(2, edge(0, 1, 1), edge(1, 1, 2)), []bool{true, false, true}, []int{0, 3}, []int{0}}, {edges(1, edge(0, 0, 50)), make([]bool, 50), []int{50}, nil},
		// Parallel edges in the same direction and in opposite ones.
		{edges(2, edge(0, 1, 3)), []bool{true, true, true}, []int{0, 3}, []int{0}}, {edges(2, edge(0, 1, 3)), []bool{false, false, false}, []int{3, 0}, []int{1}}, {edges(2, edge(0, 1, 3)), []bool{true, false, true}, []int{1, 2}, nil},
	} {
		l, e := orientation.Indegrees(x.g, x.o)
		agrees(t, "Indegrees", x, l, e, x.in, api.OK)
		d, e := orientation.Divisor(x.g, x.o)
		for v := range d {
			d[v]++
		}
		agrees(t, "Divisor and 1", x, d, e, x.in, api.OK)
		l, e = orientation.Sources(x.g, x.o)
		agrees(t, "Sources", x, l, e, x.sources, api.OK)
	}
	d, e := orientation.Divisor(triangle(), []bool{true, true, true})
	agrees(t, "Divisor", "the first example", d, e, api.Divisor{-1, 0, 1}, api.OK)
	d, e = orientation.Divisor(edges(1), nil)
	agrees(t, "Divisor", "one vertex", d, e, api.Divisor{-1}, api.OK)
}

func TestOrder(t *testing.T) {
	r := rand.New(rand.NewSource(53))
	for _, g := range append(small(), large()...) {
		for range 5 {
			order := r.Perm(g.N)
			var want []bool
			for _, x := range ends(g) {
				want = append(want, x[0] == x[1] || slices.Index(order, x[0]) < slices.Index(order, x[1]))
			}
			o, e := orientation.Order(g, order)
			agrees(t, "Order", []any{g, order}, o, e, want, api.OK)
		}
	}
	for _, x := range []struct {
		g     api.Graph
		order []int
		want  []bool
	}{
		{triangle(), []int{0, 1, 2}, []bool{true, true, true}}, {triangle(), []int{2, 1, 0}, []bool{false, false, false}}, {triangle(), []int{1, 2, 0}, []bool{false, false, true}}, {triangle(), []int{2, 0, 1}, []bool{true, false, false}}, {edges(1), []int{0}, nil}, {edges(1, edge(0, 0, 2)), []int{0}, []bool{true, true}}, {edges(2, edge(0, 0, 1), edge(0, 1, 2), edge(1, 1, 1)), []int{1, 0}, []bool{true, false, false, true}}, {edges(2), []int{1, 0}, nil},
	} {
		o, e := orientation.Order(x.g, x.order)
		agrees(t, "Order", x, o, e, x.want, api.OK)
	}
}

func TestOrderErrors(t *testing.T) {
	for _, x := range []struct {
		order []int
		e     api.Errno
	}{
		{nil, api.ErrShape}, {[]int{}, api.ErrShape}, {[]int{0, 1}, api.ErrShape}, {[]int{0, 1, 2, 3}, api.ErrShape}, {[]int{9, 9}, api.ErrShape}, {[]int{0, 1, 2, 0}, api.ErrShape}, {[]int{-1}, api.ErrShape}, {make([]int, 5000), api.ErrShape},
		{[]int{0, 1, 3}, api.ErrRange}, {[]int{-1, 0, 1}, api.ErrRange}, {[]int{0, math.MaxInt, 1}, api.ErrRange}, {[]int{0, math.MinInt, 1}, api.ErrRange}, {[]int{3, 3, 3}, api.ErrRange},
		{[]int{0, 0, 1}, api.ErrTwice}, {[]int{0, 1, 0}, api.ErrTwice}, {[]int{1, 2, 2}, api.ErrTwice}, {[]int{2, 2, 2}, api.ErrTwice},
		// The first element with an error counts.
		{[]int{0, 0, 3}, api.ErrTwice}, {[]int{0, 3, 0}, api.ErrRange}, {[]int{1, 1, -1}, api.ErrTwice}, {[]int{1, -1, 1}, api.ErrRange},
	} {
		for _, g := range []api.Graph{triangle(), edges(3), full(3, 50)} {
			o, e := orientation.Order(g, x.order)
			agrees(t, "Order", []any{g, x.order}, o, e, nil, x.e)
		}
	}
}
