package connect_test

import (
	"math"
	"math/rand"
	"slices"
	"testing"

	"sandpile/api"
	"sandpile/connect"
)

// Tests of P10.1.

// TestGraphError calls all functions with graphs that are not in normal form: their error comes before that of any other argument.
func TestGraphError(t *testing.T) {
	for _, x := range wrong() {
		for _, l := range [][]int{nil, {0}, {-1}, {1, 0}, {math.MaxInt}} {
			got := calls(x.g, l, l)
			if len(got.e) != 9 {
				t.Fatalf("%d functions are called", len(got.e))
			}
			for name, e := range got.e {
				if e != x.e || !got.isZero(name) {
					t.Errorf("%s of %.200v has the error %d, want %d", name, x.g, e, x.e)
				}
			}
		}
	}
}

func TestEdges(t *testing.T) {
	r := rand.New(rand.NewSource(4))
	for _, g := range samples() {
		size := len(ends(g))
		for _, l := range [][]int{nil, {}, all(size), subset(r.Intn(1 << min(size, 20)))} {
			if e := connect.Edges(g, l); e != api.OK {
				t.Errorf("%v in %v has the error %d", l, g, e)
			}
			if e := connect.Edges(g, append(slices.Clone(l), size)); e != api.ErrRange {
				t.Errorf("%v and %d in %v have the error %d", l, size, g, e)
			}
		}
	}
}

// wrongEdges returns lists that are no sets of the single edges 0 to 6, and the errors.
func wrongEdges() []struct {
	l []int
	e api.Errno
} {
	return []struct {
		l []int
		e api.Errno
	}{
		{[]int{-1}, api.ErrRange}, {[]int{7}, api.ErrRange}, {[]int{math.MinInt}, api.ErrRange}, {[]int{math.MaxInt}, api.ErrRange}, {[]int{0, 1, 2, 3, 4, 5, 6, 7}, api.ErrRange}, {[]int{0, -1}, api.ErrRange},
		{[]int{1, 0}, api.ErrOrder}, {[]int{0, 0}, api.ErrOrder}, {[]int{6, 6}, api.ErrOrder}, {[]int{0, 1, 2, 4, 3, 5}, api.ErrOrder}, {make([]int, 5000), api.ErrOrder},
		// The first element with an error counts, and its range first.
		{[]int{1, 0, 7}, api.ErrOrder}, {[]int{7, 0, 0}, api.ErrRange}, {[]int{3, 7, 2}, api.ErrRange}, {[]int{3, 3, -1}, api.ErrOrder}, {[]int{3, -1, 3}, api.ErrRange},
	}
}

func TestEdgesErrors(t *testing.T) {
	// Single edges are counted with their multiplicities.
	for _, g := range []api.Graph{example(), edges(1, edge(0, 0, 7)), edges(2, edge(0, 1, 7)), edges(12, edge(0, 0, 1), edge(0, 11, 6))} {
		if e := connect.Edges(g, all(7)); e != api.OK {
			t.Errorf("all single edges of %v have the error %d", g, e)
		}
		for _, x := range wrongEdges() {
			if e := connect.Edges(g, x.l); e != x.e {
				t.Errorf("%.100v in %v has the error %d, want %d", x.l, g, e, x.e)
			}
			l, e := connect.Parts(g, x.l)
			agreesLists(t, "Parts", g, l, e, nil, x.e)
		}
	}
	for _, g := range []api.Graph{edges(1), edges(12)} {
		if e := connect.Edges(g, nil); e != api.OK {
			t.Errorf("no single edges of %v have the error %d", g, e)
		}
		if e := connect.Edges(g, []int{0}); e != api.ErrRange {
			t.Errorf("the single edge 0 of %v has the error %d", g, e)
		}
	}
}

func TestParts(t *testing.T) {
	r := rand.New(rand.NewSource(5))
	for _, g := range samples() {
		of := ends(g)
		for _, l := range [][]int{nil, {}, all(len(of)), subset(r.Intn(1 << min(len(of), 20))), subset(r.Intn(1 << min(len(of), 8)))} {
			var some [][2]int
			for _, i := range l {
				some = append(some, of[i])
			}
			joined := reach(some, all(g.N))
			want := classes(g.N, func(a, b int) bool { return joined[[2]int{a, b}] })
			parts, e := connect.Parts(g, l)
			agreesLists(t, "Parts", g, parts, e, want, api.OK)
			if len(l) < len(of) {
				continue
			}
			parts, e = connect.Components(g)
			agreesLists(t, "Components", g, parts, e, want, api.OK)
			if connected, e := connect.Connected(g); connected != (len(want) == 1) || e != api.OK {
				t.Errorf("%v is connected: %t beside the error %d", g, connected, e)
			}
		}
	}
}

func TestPartsByHand(t *testing.T) {
	chain := edges(6, edge(0, 5, 1), edge(1, 4, 1), edge(2, 3, 1), edge(3, 4, 1), edge(4, 5, 1))
	for _, x := range []struct {
		g    api.Graph
		l    []int
		want [][]int
	}{
		{example(), []int{0, 3, 6}, [][]int{{0, 1}, {2, 3}, {4}}}, {example(), nil, [][]int{{0}, {1}, {2}, {3}, {4}}}, {example(), []int{6}, [][]int{{0}, {1}, {2}, {3}, {4}}}, {example(), []int{4, 5}, [][]int{{0}, {1}, {2}, {3, 4}}}, {example(), all(7), [][]int{{0, 1, 2, 3, 4}}},
		{edges(1), nil, [][]int{{0}}}, {edges(1, edge(0, 0, 2)), []int{1}, [][]int{{0}}}, {edges(2), nil, [][]int{{0}, {1}}}, {edges(2, edge(0, 1, 2)), []int{1}, [][]int{{0, 1}}},
		// Components are joined by edges that come late.
		{chain, all(5), [][]int{{0, 1, 2, 3, 4, 5}}}, {chain, []int{0, 1, 2}, [][]int{{0, 5}, {1, 4}, {2, 3}}}, {chain, []int{0, 1, 2, 4}, [][]int{{0, 1, 4, 5}, {2, 3}}}, {chain, []int{1, 2, 3}, [][]int{{0}, {1, 2, 3, 4}, {5}}},
	} {
		l, e := connect.Parts(x.g, x.l)
		agreesLists(t, "Parts", x.g, l, e, x.want, api.OK)
	}
	for _, x := range []struct {
		g    api.Graph
		want [][]int
	}{
		{edges(1), [][]int{{0}}}, {edges(3), [][]int{{0}, {1}, {2}}}, {edges(3, edge(0, 2, 1), edge(1, 1, 3)), [][]int{{0, 2}, {1}}}, {edges(12, edge(3, 11, 50)), [][]int{{0}, {1}, {2}, {3, 11}, {4}, {5}, {6}, {7}, {8}, {9}, {10}}}, {example(), [][]int{{0, 1, 2, 3, 4}}}, {full(12, 50), [][]int{all(12)}},
	} {
		l, e := connect.Components(x.g)
		agreesLists(t, "Components", x.g, l, e, x.want, api.OK)
		if connected, e := connect.Connected(x.g); connected != (len(x.want) == 1) || e != api.OK {
			t.Errorf("%v is connected: %t beside the error %d", x.g, connected, e)
		}
	}
}

func TestBridges(t *testing.T) {
	for _, g := range small() {
		of := ends(g)
		on := 0
		for _, cycle := range cycles(of) {
			on |= cycle
		}
		var want []int
		for i := range of {
			if on>>i&1 == 0 {
				want = append(want, i)
			}
		}
		l, e := connect.Bridges(g)
		agrees(t, "Bridges", g, l, e, want, api.OK)
	}
	for _, x := range []struct {
		g    api.Graph
		want []int
	}{
		{example(), []int{3}}, {edges(1), nil}, {edges(1, edge(0, 0, 1)), nil}, {edges(12), nil}, {edges(2, edge(0, 1, 1)), []int{0}}, {edges(2, edge(0, 1, 2)), nil}, {edges(2, edge(0, 0, 2), edge(0, 1, 1), edge(1, 1, 1)), []int{2}}, {circle(12), nil}, {full(12, 50), nil},
		// A path, listed by its edges, and one of two components.
		{edges(4, edge(0, 2, 1), edge(1, 3, 1), edge(2, 3, 1)), []int{0, 1, 2}}, {edges(5, edge(0, 4, 2), edge(1, 2, 1), edge(2, 3, 1)), []int{2, 3}},
	} {
		l, e := connect.Bridges(x.g)
		agrees(t, "Bridges", x.g, l, e, x.want, api.OK)
	}
}

func TestArticulations(t *testing.T) {
	for _, g := range samples() {
		if len(ends(g)) > 1000 {
			continue
		}
		var want []int
		for v := range g.N {
			var near []int
			for _, x := range g.Edges {
				if x.A != x.B && (x.A == v || x.B == v) {
					near = append(near, x.A+x.B-v)
				}
			}
			without := reach(ends(g), slices.DeleteFunc(all(g.N), func(w int) bool { return w == v }))
			if slices.ContainsFunc(near, func(w int) bool { return !without[[2]int{near[0], w}] }) {
				want = append(want, v)
			}
		}
		l, e := connect.Articulations(g)
		agrees(t, "Articulations", g, l, e, want, api.OK)
	}
	for _, x := range []struct {
		g    api.Graph
		want []int
	}{
		{example(), []int{2, 3}}, {edges(1), nil}, {edges(1, edge(0, 0, 5)), nil}, {edges(12), nil}, {circle(5), nil}, {full(12, 50), nil},
		// Loops do not make an articulation, and do not hinder one.
		{edges(2, edge(0, 0, 2), edge(0, 1, 1), edge(1, 1, 1)), nil}, {edges(3, edge(0, 1, 1), edge(1, 1, 2), edge(1, 2, 1)), []int{1}}, {edges(3, edge(0, 1, 3), edge(1, 2, 3)), []int{1}}, {edges(3, edge(0, 0, 1), edge(0, 1, 1), edge(0, 2, 1), edge(1, 2, 1)), nil},
		{edges(6, edge(0, 5, 1), edge(1, 5, 1), edge(2, 5, 1)), []int{5}}, {edges(6, edge(0, 1, 1), edge(0, 2, 1), edge(3, 5, 1), edge(4, 5, 1)), []int{0, 5}},
	} {
		l, e := connect.Articulations(x.g)
		agrees(t, "Articulations", x.g, l, e, x.want, api.OK)
	}
}
