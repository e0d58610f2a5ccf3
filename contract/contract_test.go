package contract_test

import (
	"math"
	"math/rand"
	"testing"

	"sandpile/api"
	"sandpile/contract"
)

// Tests of P12.1.

// TestGraphError calls all functions with graphs that are not in normal form: their error comes before that of any other argument.
func TestGraphError(t *testing.T) {
	for _, x := range wrong() {
		for _, n := range []int{0, 1, -1, 2, 13, 51, math.MaxInt} {
			for _, d := range []api.Divisor{nil, {0}, {0, 0, 0}, {0, 0, api.MaxChips + 1}} {
				got := arguments{x.g, n, n, 0, n, d}.calls()
				if len(got.e) != 8 {
					t.Fatalf("%d functions are called", len(got.e))
				}
				for name, e := range got.e {
					if e != x.e || !got.isZero(name) {
						t.Errorf("%s of %.200v has the error %d, want %d", name, x.g, e, x.e)
					}
				}
			}
		}
	}
}

// TestNoSingleEdge takes numbers that are no single edges: this error comes before those of a divisor.
func TestNoSingleEdge(t *testing.T) {
	for _, g := range append(samples(), full(12, 50)) {
		size := len(ends(g))
		for _, e := range []int{-1, size, size + 1, math.MinInt, math.MaxInt} {
			for _, d := range []api.Divisor{make(api.Divisor, g.N), nil, make(api.Divisor, 13), {math.MaxInt}} {
				got := arguments{g: g, e: e, d: d}.calls()
				for _, name := range []string{"Delete", "Contract", "Vertices", "Singles", "Collect"} {
					if got.e[name] != api.ErrRange || !got.isZero(name) {
						t.Errorf("%s of %d in %v has the error %d", name, e, g, got.e[name])
					}
				}
			}
		}
	}
}

func TestDeleteAndContract(t *testing.T) {
	r := rand.New(rand.NewSource(24))
	for _, g := range append(samples(), full(12, 50)) {
		of := ends(g)
		for _, e := range some(r, g, 40) {
			rest := without(of, e)
			what := arguments{g: g, e: e}
			h, err := contract.Delete(g, e)
			agrees(t, "Delete", what, h, err, made(g.N, rest), api.OK)
			to := merged(g.N, of[e][0], of[e][1])
			want, fault := moved(rest, to)
			h, err = contract.Contract(g, e)
			agrees(t, "Contract", what, h, err, want, fault)
			l, err := contract.Vertices(g, e)
			agreesList(t, "Vertices", what, l, err, to, api.OK)
		}
	}
}

// example is a graph with a single edge that is deleted and contracted; behind are the new numbers of the single edges.
type example struct {
	g                    api.Graph
	e                    int
	deleted, contracted  api.Graph
	fault                api.Errno
	vertices             []int
	behind, behindMerged []int
}

func byHand() []example {
	square := edges(4, edge(0, 1, 1), edge(0, 3, 1), edge(1, 2, 1), edge(2, 3, 1))
	return []example{
		{triangle(), 0, edges(3, edge(0, 2, 1), edge(1, 2, 1)), edges(2, edge(0, 1, 2)), api.OK, []int{0, 0, 1}, []int{-1, 0, 1}, []int{-1, 0, 1}},
		{triangle(), 1, edges(3, edge(0, 1, 1), edge(1, 2, 1)), edges(2, edge(0, 1, 2)), api.OK, []int{0, 1, 0}, []int{0, -1, 1}, []int{0, -1, 1}},
		{triangle(), 2, edges(3, edge(0, 1, 1), edge(0, 2, 1)), edges(2, edge(0, 1, 2)), api.OK, []int{0, 1, 1}, []int{0, 1, -1}, []int{0, 1, -1}},
		// The other one of two parallel edges becomes a loop.
		{edges(2, edge(0, 1, 2)), 0, edges(2, edge(0, 1, 1)), edges(1, edge(0, 0, 1)), api.OK, []int{0, 0}, []int{-1, 0}, []int{-1, 0}},
		{edges(2, edge(0, 1, 2)), 1, edges(2, edge(0, 1, 1)), edges(1, edge(0, 0, 1)), api.OK, []int{0, 0}, []int{0, -1}, []int{0, -1}},
		{edges(2, edge(0, 1, 1)), 0, edges(2), edges(1), api.OK, []int{0, 0}, []int{-1}, []int{-1}},
		// A loop is only deleted.
		{edges(1, edge(0, 0, 1)), 0, edges(1), edges(1), api.OK, []int{0}, []int{-1}, []int{-1}},
		{edges(3, edge(0, 1, 1), edge(1, 1, 2), edge(1, 2, 1)), 2, edges(3, edge(0, 1, 1), edge(1, 1, 1), edge(1, 2, 1)), edges(3, edge(0, 1, 1), edge(1, 1, 1), edge(1, 2, 1)), api.OK, []int{0, 1, 2}, []int{0, 1, -1, 2}, []int{0, 1, -1, 2}},
		{edges(1, edge(0, 0, 50)), 49, edges(1, edge(0, 0, 49)), edges(1, edge(0, 0, 49)), api.OK, []int{0}, append(all(49), -1), append(all(49), -1)},
		// Single edges come into another order.
		{square, 1, edges(4, edge(0, 1, 1), edge(1, 2, 1), edge(2, 3, 1)), edges(3, edge(0, 1, 1), edge(0, 2, 1), edge(1, 2, 1)), api.OK, []int{0, 1, 2, 0}, []int{0, -1, 1, 2}, []int{0, -1, 2, 1}},
		{edges(4, edge(0, 2, 1), edge(0, 3, 1), edge(1, 1, 1), edge(1, 2, 1), edge(2, 2, 1), edge(2, 3, 1)), 0, edges(4, edge(0, 3, 1), edge(1, 1, 1), edge(1, 2, 1), edge(2, 2, 1), edge(2, 3, 1)), edges(3, edge(0, 0, 1), edge(0, 1, 1), edge(0, 2, 2), edge(1, 1, 1)), api.OK, []int{0, 1, 0, 2}, []int{-1, 0, 1, 2, 3, 4}, []int{-1, 2, 4, 1, 0, 3}},
		// MaxMult loops, and more, arise from parallel edges and from the loops at both ends.
		{edges(2, edge(0, 0, 1), edge(0, 1, 50)), 1, edges(2, edge(0, 0, 1), edge(0, 1, 49)), edges(1, edge(0, 0, 50)), api.OK, []int{0, 0}, append([]int{0, -1}, all(50)[1:]...), append([]int{0, -1}, all(50)[1:]...)},
		{edges(2, edge(0, 1, 50), edge(1, 1, 1)), 50 - 1, edges(2, edge(0, 1, 49), edge(1, 1, 1)), edges(1, edge(0, 0, 50)), api.OK, []int{0, 0}, append(all(49), -1, 49), append(all(49), -1, 49)},
		{edges(2, edge(0, 0, 1), edge(0, 1, 50), edge(1, 1, 1)), 1, edges(2, edge(0, 0, 1), edge(0, 1, 49), edge(1, 1, 1)), api.Graph{}, api.ErrMany, []int{0, 0}, append([]int{0, -1}, all(51)[1:]...), append([]int{0, -1}, all(51)[1:]...)},
		{edges(2, edge(0, 0, 25), edge(0, 1, 1), edge(1, 1, 26)), 25, edges(2, edge(0, 0, 25), edge(1, 1, 26)), api.Graph{}, api.ErrMany, []int{0, 0}, append(append(all(25), -1), all(51)[25:]...), append(append(all(25), -1), all(51)[25:]...)},
		// MaxMult parallel edges, and more, arise at a third vertex.
		{edges(3, edge(0, 1, 1), edge(0, 2, 25), edge(1, 2, 25)), 0, edges(3, edge(0, 2, 25), edge(1, 2, 25)), edges(2, edge(0, 1, 50)), api.OK, []int{0, 0, 1}, append([]int{-1}, all(50)...), append([]int{-1}, all(50)...)},
		{edges(3, edge(0, 1, 1), edge(0, 2, 26), edge(1, 2, 25)), 0, edges(3, edge(0, 2, 26), edge(1, 2, 25)), api.Graph{}, api.ErrMany, []int{0, 0, 1}, append([]int{-1}, all(51)...), append([]int{-1}, all(51)...)},
	}
}

func TestByHand(t *testing.T) {
	for _, x := range byHand() {
		what := arguments{g: x.g, e: x.e}
		h, err := contract.Delete(x.g, x.e)
		agrees(t, "Delete", what, h, err, x.deleted, api.OK)
		h, err = contract.Contract(x.g, x.e)
		agrees(t, "Contract", what, h, err, x.contracted, x.fault)
		l, err := contract.Vertices(x.g, x.e)
		agreesList(t, "Vertices", what, l, err, x.vertices, api.OK)
	}
}

func TestMerge(t *testing.T) {
	for _, g := range append(samples(), full(12, 25), full(12, 50)) {
		for a := range g.N {
			for b := range g.N {
				what := arguments{g: g, a: a, b: b}
				want, fault := api.Graph{}, api.ErrTwice
				if a != b {
					want, fault = moved(ends(g), merged(g.N, a, b))
				}
				h, err := contract.Merge(g, a, b)
				agrees(t, "Merge", what, h, err, want, fault)
			}
			for _, b := range []int{-1, g.N, math.MinInt, math.MaxInt} {
				for _, pair := range [][2]int{{a, b}, {b, a}, {b, b}} {
					h, err := contract.Merge(g, pair[0], pair[1])
					agrees(t, "Merge", arguments{g: g, a: pair[0], b: pair[1]}, h, err, api.Graph{}, api.ErrRange)
				}
			}
		}
	}
}

func TestMergeByHand(t *testing.T) {
	for _, x := range []struct {
		g    api.Graph
		a, b int
		want api.Graph
		e    api.Errno
	}{
		{triangle(), 0, 1, edges(2, edge(0, 0, 1), edge(0, 1, 2)), api.OK}, {triangle(), 1, 0, edges(2, edge(0, 0, 1), edge(0, 1, 2)), api.OK}, {triangle(), 2, 1, edges(2, edge(0, 1, 2), edge(1, 1, 1)), api.OK},
		{edges(4, edge(0, 1, 1), edge(2, 3, 1)), 3, 0, edges(3, edge(0, 1, 1), edge(0, 2, 1)), api.OK}, {edges(4, edge(0, 3, 1)), 1, 2, edges(3, edge(0, 2, 1)), api.OK}, {edges(2), 0, 1, edges(1), api.OK}, {edges(12), 11, 10, edges(11), api.OK},
		{edges(2, edge(0, 1, 50)), 0, 1, edges(1, edge(0, 0, 50)), api.OK}, {edges(2, edge(0, 0, 1), edge(0, 1, 50)), 0, 1, api.Graph{}, api.ErrMany}, {edges(2, edge(0, 0, 20), edge(0, 1, 20), edge(1, 1, 10)), 1, 0, edges(1, edge(0, 0, 50)), api.OK}, {edges(2, edge(0, 0, 20), edge(0, 1, 20), edge(1, 1, 11)), 1, 0, api.Graph{}, api.ErrMany},
		{edges(3, edge(0, 1, 25), edge(1, 2, 25)), 0, 2, edges(2, edge(0, 1, 50)), api.OK}, {edges(3, edge(0, 1, 25), edge(1, 2, 26)), 2, 0, api.Graph{}, api.ErrMany},
		// The range comes before equal vertices, and these before what would be too much.
		{full(2, 50), 2, 2, api.Graph{}, api.ErrRange}, {full(2, 50), -1, -1, api.Graph{}, api.ErrRange}, {full(2, 50), 1, 1, api.Graph{}, api.ErrTwice}, {full(2, 50), 0, 1, api.Graph{}, api.ErrMany}, {full(2, 50), 0, 2, api.Graph{}, api.ErrRange}, {edges(1), 0, 0, api.Graph{}, api.ErrTwice}, {edges(1), 0, 1, api.Graph{}, api.ErrRange}, {edges(1), 1, 1, api.Graph{}, api.ErrRange},
	} {
		h, err := contract.Merge(x.g, x.a, x.b)
		agrees(t, "Merge", arguments{g: x.g, a: x.a, b: x.b}, h, err, x.want, x.e)
	}
}

// subdivided returns the graph in which the vertex i edges behind the A of a single edge has the number that the chapter says.
func subdivided(g api.Graph, k int) (api.Graph, api.Errno) {
	if k < 1 || k > 12 {
		return api.Graph{}, api.ErrRange
	}
	of := ends(g)
	if g.N+(k-1)*len(of) > 12 {
		return api.Graph{}, api.ErrMany
	}
	place := func(e, i int) int {
		switch i {
		case 0:
			return of[e][0]
		case k:
			return of[e][1]
		}
		return g.N + e*(k-1) + i - 1
	}
	var l [][2]int
	for e := range of {
		for i := range k {
			l = append(l, [2]int{place(e, i), place(e, i+1)})
		}
	}
	return made(g.N+(k-1)*len(of), l), api.OK
}

func TestSubdivide(t *testing.T) {
	for _, g := range append(samples(), full(12, 50)) {
		for _, k := range append(all(15), -1, math.MinInt, math.MaxInt) {
			want, fault := subdivided(g, k)
			h, err := contract.Subdivide(g, k)
			agrees(t, "Subdivide", arguments{g: g, k: k}, h, err, want, fault)
		}
	}
}

func TestSubdivideByHand(t *testing.T) {
	for _, x := range []struct {
		g    api.Graph
		k    int
		want api.Graph
		e    api.Errno
	}{
		{triangle(), 1, triangle(), api.OK}, {triangle(), 2, edges(6, edge(0, 3, 1), edge(0, 4, 1), edge(1, 3, 1), edge(1, 5, 1), edge(2, 4, 1), edge(2, 5, 1)), api.OK}, {triangle(), 3, edges(9, edge(0, 3, 1), edge(0, 5, 1), edge(1, 4, 1), edge(1, 7, 1), edge(2, 6, 1), edge(2, 8, 1), edge(3, 4, 1), edge(5, 6, 1), edge(7, 8, 1)), api.OK},
		// Loops and parallel edges.
		{edges(1, edge(0, 0, 1)), 2, edges(2, edge(0, 1, 2)), api.OK}, {edges(1, edge(0, 0, 1)), 3, edges(3, edge(0, 1, 1), edge(0, 2, 1), edge(1, 2, 1)), api.OK}, {edges(1, edge(0, 0, 2)), 2, edges(3, edge(0, 1, 2), edge(0, 2, 2)), api.OK}, {edges(2, edge(0, 1, 2)), 2, edges(4, edge(0, 2, 1), edge(0, 3, 1), edge(1, 2, 1), edge(1, 3, 1)), api.OK}, {edges(1, edge(0, 0, 50)), 1, edges(1, edge(0, 0, 50)), api.OK},
		// Exactly MaxVertices vertices, and more.
		{triangle(), 4, edges(12, edge(0, 3, 1), edge(0, 6, 1), edge(1, 5, 1), edge(1, 9, 1), edge(2, 8, 1), edge(2, 11, 1), edge(3, 4, 1), edge(4, 5, 1), edge(6, 7, 1), edge(7, 8, 1), edge(9, 10, 1), edge(10, 11, 1)), api.OK}, {triangle(), 5, api.Graph{}, api.ErrMany}, {edges(11, edge(0, 10, 1)), 2, edges(12, edge(0, 11, 1), edge(10, 11, 1)), api.OK}, {edges(11, edge(0, 10, 1)), 3, api.Graph{}, api.ErrMany}, {edges(12, edge(0, 10, 1)), 2, api.Graph{}, api.ErrMany}, {edges(12, edge(0, 10, 1)), 1, edges(12, edge(0, 10, 1)), api.OK},
		{edges(1, edge(0, 0, 11)), 2, edges(12, edge(0, 1, 2), edge(0, 2, 2), edge(0, 3, 2), edge(0, 4, 2), edge(0, 5, 2), edge(0, 6, 2), edge(0, 7, 2), edge(0, 8, 2), edge(0, 9, 2), edge(0, 10, 2), edge(0, 11, 2)), api.OK}, {edges(1, edge(0, 0, 12)), 2, api.Graph{}, api.ErrMany},
		{edges(1, edge(0, 0, 1)), 12, edges(12, edge(0, 1, 1), edge(0, 11, 1), edge(1, 2, 1), edge(2, 3, 1), edge(3, 4, 1), edge(4, 5, 1), edge(5, 6, 1), edge(6, 7, 1), edge(7, 8, 1), edge(8, 9, 1), edge(9, 10, 1), edge(10, 11, 1)), api.OK},
		{full(12, 50), 1, full(12, 50), api.OK}, {full(12, 50), 2, api.Graph{}, api.ErrMany}, {full(12, 50), 12, api.Graph{}, api.ErrMany}, {full(12, 50), 13, api.Graph{}, api.ErrRange}, {full(12, 50), 0, api.Graph{}, api.ErrRange},
		// Graphs without edges have no more vertices.
		{edges(1), 12, edges(1), api.OK}, {edges(12), 12, edges(12), api.OK}, {edges(12), 13, api.Graph{}, api.ErrRange}, {edges(12), 0, api.Graph{}, api.ErrRange}, {edges(5), 7, edges(5), api.OK},
	} {
		h, err := contract.Subdivide(x.g, x.k)
		agrees(t, "Subdivide", arguments{g: x.g, k: x.k}, h, err, x.want, x.e)
	}
}
