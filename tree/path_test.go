package tree_test

import (
	"math"
	"math/rand"
	"slices"
	"testing"

	"sandpile/api"
	"sandpile/tree"
)

// Tests of P13.2.

// planted is a graph with a spanning tree.
type planted struct {
	g api.Graph
	t []int
}

// trees returns all trees of small graphs, and some of others.
func trees() []planted {
	var l []planted
	for _, g := range small() {
		for _, t := range listed(g) {
			l = append(l, planted{g, t})
		}
	}
	r := rand.New(rand.NewSource(43))
	for _, g := range large() {
		for range 2 {
			l = append(l, planted{g, grown(r, g)})
		}
	}
	return l
}

// outside returns numbers that are none of the n first ones.
func outside(n int) []int { return []int{-1, n, n + 1, math.MinInt, math.MaxInt} }

func TestCycle(t *testing.T) {
	r := rand.New(rand.NewSource(44))
	for _, x := range trees() {
		of := ends(x.g)
		for _, e := range some(r, x.g, 12) {
			var want []int
			fault := api.ErrState
			if !slices.Contains(x.t, e) {
				// Without what lies on the cycle, the tree with e is still connected.
				with := append(slices.Clone(x.t), e)
				slices.Sort(with)
				want, fault = slices.DeleteFunc(slices.Clone(with), func(f int) bool { return !isWhole(x.g.N, of, without(with, f)) }), api.OK
			}
			l, err := tree.Cycle(x.g, x.t, e)
			agrees(t, "Cycle", []any{x, e}, l, err, want, fault)
		}
		for _, e := range outside(len(of)) {
			l, err := tree.Cycle(x.g, x.t, e)
			agrees(t, "Cycle", []any{x, e}, l, err, nil, api.ErrRange)
		}
	}
}

func TestCycleByHand(t *testing.T) {
	ring := edges(6, edge(0, 1, 1), edge(0, 5, 1), edge(1, 2, 1), edge(2, 3, 1), edge(3, 4, 1), edge(4, 5, 1))
	for _, x := range []struct {
		g    api.Graph
		t    []int
		e    int
		want []int
		err  api.Errno
	}{
		{example(), []int{0, 3}, 1, []int{0, 1}, api.OK}, {example(), []int{0, 3}, 2, []int{0, 2, 3}, api.OK}, {example(), []int{0, 3}, 0, nil, api.ErrState}, {example(), []int{0, 3}, 3, nil, api.ErrState}, {example(), []int{2, 3}, 0, []int{0, 2, 3}, api.OK}, {example(), []int{2, 3}, 1, []int{1, 2, 3}, api.OK},
		// A loop, a parallel edge, and others.
		{looped(), []int{1, 3, 5}, 0, []int{0}, api.OK}, {looped(), []int{1, 3, 5}, 7, []int{7}, api.OK}, {looped(), []int{1, 3, 5}, 2, []int{1, 2}, api.OK}, {looped(), []int{2, 3, 5}, 1, []int{1, 2}, api.OK}, {looped(), []int{2, 3, 5}, 4, []int{2, 3, 4}, api.OK}, {looped(), []int{2, 3, 5}, 5, nil, api.ErrState}, {looped(), []int{2, 3, 5}, 8, nil, api.ErrRange},
		{edges(1, edge(0, 0, 2)), nil, 0, []int{0}, api.OK}, {edges(1, edge(0, 0, 2)), nil, 1, []int{1}, api.OK}, {edges(1, edge(0, 0, 2)), nil, 2, nil, api.ErrRange}, {edges(1), nil, 0, nil, api.ErrRange},
		{ring, []int{0, 1, 2, 4, 5}, 3, all(6), api.OK}, {ring, []int{1, 2, 3, 4, 5}, 0, all(6), api.OK}, {chain(1, 1), []int{0, 1}, 0, nil, api.ErrState}, {chain(1, 3), []int{0, 2}, 3, []int{2, 3}, api.OK},
	} {
		l, err := tree.Cycle(x.g, x.t, x.e)
		agrees(t, "Cycle", x, l, err, x.want, x.err)
	}
}

func TestCutset(t *testing.T) {
	r := rand.New(rand.NewSource(45))
	for _, x := range trees() {
		of := ends(x.g)
		for _, e := range append(some(r, x.g, 6), x.t...) {
			var want []int
			fault := api.ErrState
			if slices.Contains(x.t, e) {
				near := reach(of, without(x.t, e), of[e][0])
				want, fault = slices.DeleteFunc(all(len(of)), func(f int) bool { return near[of[f][0]] == near[of[f][1]] }), api.OK
			}
			l, err := tree.Cutset(x.g, x.t, e)
			agrees(t, "Cutset", []any{x, e}, l, err, want, fault)
		}
		for _, e := range outside(len(of)) {
			l, err := tree.Cutset(x.g, x.t, e)
			agrees(t, "Cutset", []any{x, e}, l, err, nil, api.ErrRange)
		}
	}
}

func TestCutsetByHand(t *testing.T) {
	for _, x := range []struct {
		g    api.Graph
		t    []int
		e    int
		want []int
		err  api.Errno
	}{
		{example(), []int{0, 3}, 0, []int{0, 1, 2}, api.OK}, {example(), []int{0, 3}, 3, []int{2, 3}, api.OK}, {example(), []int{0, 3}, 1, nil, api.ErrState}, {example(), []int{0, 3}, 2, nil, api.ErrState}, {example(), []int{2, 3}, 2, []int{0, 1, 2}, api.OK}, {example(), []int{2, 3}, 3, []int{0, 1, 3}, api.OK},
		{looped(), []int{1, 3, 5}, 1, []int{1, 2, 4}, api.OK}, {looped(), []int{1, 3, 5}, 3, []int{3, 4}, api.OK}, {looped(), []int{1, 3, 5}, 5, []int{5}, api.OK}, {looped(), []int{1, 3, 5}, 0, nil, api.ErrState}, {looped(), []int{1, 3, 5}, 7, nil, api.ErrState}, {looped(), []int{1, 3, 5}, 8, nil, api.ErrRange}, {looped(), []int{1, 3, 5}, -1, nil, api.ErrRange},
		{edges(1, edge(0, 0, 2)), nil, 0, nil, api.ErrState}, {edges(1), nil, 0, nil, api.ErrRange}, {chain(1, 3), []int{0, 2}, 0, []int{0}, api.OK}, {chain(1, 3), []int{0, 2}, 2, []int{1, 2, 3}, api.OK},
	} {
		l, err := tree.Cutset(x.g, x.t, x.e)
		agrees(t, "Cutset", x, l, err, x.want, x.err)
	}
}

// swapped returns the tree with a single edge in place of another one, or the first error that applies.
func swapped(x planted, out, in int) ([]int, api.Errno) {
	of := ends(x.g)
	switch {
	case out < 0 || out >= len(of) || in < 0 || in >= len(of):
		return nil, api.ErrRange
	case !slices.Contains(x.t, out):
		return nil, api.ErrNone
	case slices.Contains(x.t, in):
		return nil, api.ErrTwice
	}
	l := append(without(x.t, out), in)
	if !isWhole(x.g.N, of, l) {
		return nil, api.ErrState
	}
	slices.Sort(l)
	return l, api.OK
}

func TestSwap(t *testing.T) {
	r := rand.New(rand.NewSource(46))
	for _, x := range trees() {
		size := len(ends(x.g))
		for _, out := range append(some(r, x.g, 4), append(outside(size), x.t...)...) {
			for _, in := range append(some(r, x.g, 6), outside(size)...) {
				want, fault := swapped(x, out, in)
				l, err := tree.Swap(x.g, x.t, out, in)
				agrees(t, "Swap", []any{x, out, in}, l, err, want, fault)
			}
		}
	}
}

func TestSwapByHand(t *testing.T) {
	for _, x := range []struct {
		g       api.Graph
		t       []int
		out, in int
		want    []int
		err     api.Errno
	}{
		{example(), []int{0, 3}, 3, 2, []int{0, 2}, api.OK}, {example(), []int{0, 3}, 0, 1, []int{1, 3}, api.OK}, {example(), []int{0, 3}, 0, 2, []int{2, 3}, api.OK}, {example(), []int{2, 3}, 2, 0, []int{0, 3}, api.OK}, {example(), []int{1, 2}, 1, 3, []int{2, 3}, api.OK},
		{example(), []int{0, 3}, 3, 1, nil, api.ErrState}, {looped(), []int{1, 3, 5}, 5, 6, nil, api.ErrState}, {looped(), []int{1, 3, 5}, 5, 4, nil, api.ErrState}, {looped(), []int{1, 3, 5}, 1, 0, nil, api.ErrState}, {looped(), []int{1, 3, 5}, 1, 4, []int{3, 4, 5}, api.OK},
		// The order of the errors.
		{example(), []int{0, 3}, 4, 2, nil, api.ErrRange}, {example(), []int{0, 3}, -1, 2, nil, api.ErrRange}, {example(), []int{0, 3}, 1, 4, nil, api.ErrRange}, {example(), []int{0, 3}, 1, -1, nil, api.ErrRange}, {example(), []int{0, 3}, 0, 4, nil, api.ErrRange}, {example(), []int{0, 3}, 4, 3, nil, api.ErrRange}, {example(), []int{0, 3}, 4, 4, nil, api.ErrRange},
		{example(), []int{0, 3}, 1, 2, nil, api.ErrNone}, {example(), []int{0, 3}, 1, 1, nil, api.ErrNone}, {example(), []int{0, 3}, 1, 3, nil, api.ErrNone}, {example(), []int{0, 3}, 2, 0, nil, api.ErrNone},
		{example(), []int{0, 3}, 0, 0, nil, api.ErrTwice}, {example(), []int{0, 3}, 0, 3, nil, api.ErrTwice}, {example(), []int{0, 3}, 3, 3, nil, api.ErrTwice},
		{edges(1), nil, 0, 0, nil, api.ErrRange}, {edges(1, edge(0, 0, 2)), nil, 0, 1, nil, api.ErrNone}, {edges(1, edge(0, 0, 2)), nil, 0, 2, nil, api.ErrRange},
	} {
		l, err := tree.Swap(x.g, x.t, x.out, x.in)
		agrees(t, "Swap", x, l, err, x.want, x.err)
	}
}

// onWay returns the single edges of a tree without which it does not connect two vertices, in the order of their distance from the first one.
func onWay(x planted, a, b int) []int {
	of := ends(x.g)
	var l []int
	for _, e := range x.t {
		if !reach(of, without(x.t, e), a)[b] {
			l = append(l, e)
		}
	}
	// The farther a single edge is on the way, the more vertices are on its side of a.
	before := func(e int) int { return len(reach(of, without(x.t, e), a)) }
	slices.SortFunc(l, func(e, f int) int { return before(e) - before(f) })
	return l
}

func TestPath(t *testing.T) {
	r := rand.New(rand.NewSource(47))
	for _, x := range trees() {
		for range 12 {
			a, b := r.Intn(x.g.N), r.Intn(x.g.N)
			l, err := tree.Path(x.g, x.t, a, b)
			agrees(t, "Path", []any{x, a, b}, l, err, onWay(x, a, b), api.OK)
			slices.Reverse(l)
			back, err := tree.Path(x.g, x.t, b, a)
			agrees(t, "Path", []any{x, b, a}, back, err, l, api.OK)
			none, err := tree.Path(x.g, x.t, a, a)
			agrees(t, "Path", []any{x, a, a}, none, err, nil, api.OK)
		}
		for _, v := range outside(x.g.N) {
			for _, pair := range [][2]int{{0, v}, {v, 0}, {v, v}} {
				l, err := tree.Path(x.g, x.t, pair[0], pair[1])
				agrees(t, "Path", []any{x, pair}, l, err, nil, api.ErrRange)
			}
		}
	}
}

func TestPathByHand(t *testing.T) {
	// The way 3-0-4-1-2 with the single edges 0-3, 0-4, 1-2 and 1-4.
	way := edges(5, edge(0, 3, 1), edge(0, 4, 1), edge(1, 2, 1), edge(1, 4, 1))
	for _, x := range []struct {
		g    api.Graph
		t    []int
		a, b int
		want []int
	}{
		{example(), []int{0, 3}, 2, 0, []int{3, 0}}, {example(), []int{0, 3}, 0, 2, []int{0, 3}}, {example(), []int{0, 3}, 1, 0, []int{0}}, {example(), []int{1, 3}, 0, 1, []int{1}}, {example(), []int{0, 3}, 1, 1, nil}, {example(), []int{2, 3}, 0, 1, []int{2, 3}}, {example(), []int{2, 3}, 1, 0, []int{3, 2}},
		{way, all(4), 3, 2, []int{0, 1, 3, 2}}, {way, all(4), 2, 3, []int{2, 3, 1, 0}}, {way, all(4), 0, 1, []int{1, 3}}, {looped(), []int{2, 4, 5}, 3, 0, []int{5, 4, 2}}, {edges(1), nil, 0, 0, nil}, {edges(1, edge(0, 0, 1)), nil, 0, 0, nil},
	} {
		l, err := tree.Path(x.g, x.t, x.a, x.b)
		agrees(t, "Path", x, l, err, x.want, api.OK)
	}
}

func TestParents(t *testing.T) {
	for _, x := range trees() {
		of := ends(x.g)
		for root := range x.g.N {
			var want []int
			for v := range x.g.N {
				// Only the parent is at the vertex, and separates it from the root.
				i := slices.IndexFunc(x.t, func(e int) bool {
					return slices.Contains(of[e][:], v) && !reach(of, without(x.t, e), root)[v]
				})
				if v == root {
					want = append(want, -1)
				} else {
					want = append(want, x.t[i])
				}
			}
			l, err := tree.Parents(x.g, x.t, root)
			agrees(t, "Parents", []any{x, root}, l, err, want, api.OK)
		}
		for _, root := range outside(x.g.N) {
			l, err := tree.Parents(x.g, x.t, root)
			agrees(t, "Parents", []any{x, root}, l, err, nil, api.ErrRange)
		}
	}
}

func TestParentsByHand(t *testing.T) {
	star := edges(4, edge(0, 2, 1), edge(1, 2, 1), edge(2, 3, 1))
	for _, x := range []struct {
		g    api.Graph
		t    []int
		root int
		want []int
	}{
		{example(), []int{0, 3}, 0, []int{-1, 0, 3}}, {example(), []int{0, 3}, 1, []int{0, -1, 3}}, {example(), []int{0, 3}, 2, []int{0, 3, -1}}, {star, all(3), 2, []int{0, 1, -1, 2}}, {star, all(3), 0, []int{-1, 1, 0, 2}}, {star, all(3), 3, []int{0, 1, 2, -1}}, {edges(1), nil, 0, []int{-1}}, {edges(1, edge(0, 0, 7)), nil, 0, []int{-1}}, {looped(), []int{2, 4, 5}, 3, []int{2, 4, 5, -1}},
	} {
		l, err := tree.Parents(x.g, x.t, x.root)
		agrees(t, "Parents", x, l, err, x.want, api.OK)
	}
}
