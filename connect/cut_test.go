package connect_test

import (
	"math"
	"math/rand"
	"slices"
	"testing"

	"sandpile/api"
	"sandpile/connect"
)

// Tests of P10.2.

func TestBlocks(t *testing.T) {
	for _, g := range small() {
		of := ends(g)
		l := cycles(of)
		want := classes(len(of), func(a, b int) bool {
			return a == b || slices.ContainsFunc(l, func(cycle int) bool { return cycle>>a&1 == 1 && cycle>>b&1 == 1 })
		})
		got, e := connect.Blocks(g)
		agreesLists(t, "Blocks", g, got, e, want, api.OK)
	}
}

// TestBlocksOfLargeGraphs joins the single edges of each cycle that is closed by one single edge of a forest: so the blocks arise from any forest.
func TestBlocksOfLargeGraphs(t *testing.T) {
	for _, g := range large() {
		of := ends(g)
		if len(of) > 500 {
			continue
		}
		var forest []int
		var closed [][2]int
		for i, x := range of {
			if way := path(of, forest, x[0], x[1]); way != nil {
				for _, j := range way {
					if j >= 0 {
						closed = append(closed, [2]int{i, j})
					}
				}
			} else {
				forest = append(forest, i)
			}
		}
		number := all(len(of))
		for _, x := range closed {
			a, b := number[x[0]], number[x[1]]
			for i := range number {
				if number[i] == a {
					number[i] = b
				}
			}
		}
		want := classes(len(of), func(a, b int) bool { return number[a] == number[b] })
		got, e := connect.Blocks(g)
		agreesLists(t, "Blocks", g, got, e, want, api.OK)
	}
}

// path returns -1 and the single edges of a forest between two vertices, and nil if there is no such path.
func path(ends [][2]int, forest []int, a, b int) []int {
	if a == b {
		return []int{-1}
	}
	for k, i := range forest {
		x := ends[i]
		if x[0] != a && x[1] != a {
			continue
		}
		rest := slices.Delete(slices.Clone(forest), k, k+1)
		if way := path(ends, rest, x[0]+x[1]-a, b); way != nil {
			return append(way, i)
		}
	}
	return nil
}

func TestBlocksByHand(t *testing.T) {
	for _, x := range []struct {
		g    api.Graph
		want [][]int
	}{
		{example(), [][]int{{0, 1, 2}, {3}, {4, 5}, {6}}}, {edges(1), nil}, {edges(12), nil},
		// Loops are blocks by themselves, also several at one vertex; parallel edges are one block.
		{edges(1, edge(0, 0, 3)), [][]int{{0}, {1}, {2}}}, {edges(2, edge(0, 1, 1)), [][]int{{0}}}, {edges(2, edge(0, 1, 3)), [][]int{{0, 1, 2}}}, {edges(2, edge(0, 0, 2), edge(0, 1, 2), edge(1, 1, 1)), [][]int{{0}, {1}, {2, 3}, {4}}}, {edges(2, edge(0, 0, 1), edge(0, 1, 1), edge(1, 1, 1)), [][]int{{0}, {1}, {2}}},
		{edges(3, edge(0, 1, 2), edge(1, 2, 2)), [][]int{{0, 1}, {2, 3}}}, {edges(4, edge(0, 2, 1), edge(1, 3, 1), edge(2, 3, 1)), [][]int{{0}, {1}, {2}}}, {circle(6), [][]int{all(6)}},
		// Blocks are ordered by their least single edges, also in several components.
		{edges(6, edge(0, 2, 1), edge(0, 4, 1), edge(1, 3, 1), edge(1, 5, 1), edge(2, 4, 1), edge(3, 5, 1)), [][]int{{0, 1, 4}, {2, 3, 5}}}, {edges(5, edge(0, 3, 1), edge(0, 4, 1), edge(1, 2, 2), edge(1, 3, 1), edge(3, 4, 1)), [][]int{{0, 1, 5}, {2, 3}, {4}}},
		{edges(4, edge(0, 1, 1), edge(0, 2, 1), edge(1, 1, 1), edge(1, 2, 1), edge(2, 3, 1)), [][]int{{0, 1, 3}, {2}, {4}}},
	} {
		l, e := connect.Blocks(x.g)
		agreesLists(t, "Blocks", x.g, l, e, x.want, api.OK)
	}
}

// isBond follows the definition.
func isBond(g api.Graph, set []int) bool {
	var other []int
	for v := range g.N {
		if !slices.Contains(set, v) {
			other = append(other, v)
		}
	}
	for _, l := range [][]int{all(g.N), set, other} {
		if len(l) == 0 || len(reach(ends(g), l)) < len(l)*len(l) {
			return false
		}
	}
	return true
}

func TestBond(t *testing.T) {
	r := rand.New(rand.NewSource(6))
	bonds := 0
	for _, g := range samples() {
		if len(ends(g)) > 1000 {
			continue
		}
		for _, mask := range []int{0, 1<<g.N - 1, 1, r.Intn(1 << g.N), r.Intn(1 << g.N), r.Intn(1 << g.N)} {
			set := subset(mask)
			want := isBond(g, set)
			if want {
				bonds++
			}
			if got, e := connect.Bond(g, set); got != want || e != api.OK {
				t.Errorf("%v in %v has a bond: %t beside the error %d", set, g, got, e)
			}
		}
	}
	if bonds < 300 {
		t.Errorf("only %d bonds", bonds)
	}
	apart := edges(4, edge(0, 1, 1), edge(2, 3, 1))
	for _, x := range []struct {
		g    api.Graph
		set  []int
		want bool
	}{
		{example(), []int{0}, true}, {example(), []int{0, 4}, false}, {example(), []int{0, 1, 2}, true}, {example(), []int{3, 4}, true}, {example(), []int{2}, false}, {example(), []int{0, 1}, true}, {example(), []int{4}, true}, {example(), nil, false}, {example(), []int{}, false}, {example(), all(5), false},
		{edges(1), nil, false}, {edges(1), []int{0}, false}, {edges(1, edge(0, 0, 1)), []int{0}, false}, {edges(2, edge(0, 1, 1)), []int{1}, true}, {edges(2, edge(0, 1, 50)), []int{0}, true},
		// In a graph that is not connected nothing is a bond, even if the set and its complement are connected.
		{edges(2), []int{0}, false}, {apart, []int{0, 1}, false}, {apart, []int{0}, false}, {apart, nil, false}, {apart, all(4), false}, {circle(6), []int{1, 2, 3}, true}, {circle(6), []int{0, 5}, true}, {circle(6), []int{1, 3}, false}, {circle(6), []int{0, 1, 3, 4}, false},
	} {
		if got, e := connect.Bond(x.g, x.set); got != x.want || e != api.OK {
			t.Errorf("%v in %v has a bond: %t beside the error %d", x.set, x.g, got, e)
		}
	}
}

func TestBondErrors(t *testing.T) {
	for _, x := range []struct {
		set []int
		e   api.Errno
	}{
		{[]int{-1}, api.ErrRange}, {[]int{4}, api.ErrRange}, {[]int{math.MaxInt}, api.ErrRange}, {[]int{math.MinInt}, api.ErrRange}, {[]int{0, 1, 2, 3, 4}, api.ErrRange}, {[]int{1, 0}, api.ErrOrder}, {[]int{2, 2}, api.ErrOrder}, {[]int{1, 0, 4}, api.ErrOrder}, {[]int{4, 0, 0}, api.ErrRange}, {[]int{2, -1, 2}, api.ErrRange}, {make([]int, 5000), api.ErrOrder},
	} {
		// The error comes also where the graph is not connected.
		for _, g := range []api.Graph{circle(4), edges(4), full(4, 50)} {
			if got, e := connect.Bond(g, x.set); got || e != x.e {
				t.Errorf("%.100v in %v has a bond: %t beside the error %d, want %d", x.set, g, got, e, x.e)
			}
		}
	}
}

func TestConnectivity(t *testing.T) {
	for _, g := range samples() {
		least, found := 0, []int(nil)
		for mask := 1; mask < 1<<g.N-1; mask += 2 {
			size := 0
			for _, x := range g.Edges {
				if (mask>>x.A^mask>>x.B)&1 == 1 {
					size += x.Mult
				}
			}
			set := subset(mask)
			if found == nil || size < least || size == least && slices.Compare(set, found) < 0 {
				least, found = size, set
			}
		}
		want := api.OK
		if g.N == 1 {
			want = api.ErrEmpty
		}
		n, set, e := connect.Connectivity(g)
		agrees(t, "Connectivity", g, set, e, found, want)
		if n != least {
			t.Errorf("Connectivity of %v: %d instead of %d", g, n, least)
		}
	}
}

func TestConnectivityByHand(t *testing.T) {
	for _, x := range []struct {
		g    api.Graph
		n    int
		want []int
		e    api.Errno
	}{
		{example(), 1, []int{0, 1, 2}, api.OK}, {edges(1), 0, nil, api.ErrEmpty}, {edges(1, edge(0, 0, 50)), 0, nil, api.ErrEmpty}, {edges(2), 0, []int{0}, api.OK}, {edges(2, edge(0, 0, 3), edge(0, 1, 50), edge(1, 1, 1)), 50, []int{0}, api.OK},
		// A list is before its longer continuations, and before those with a greater element.
		{circle(3), 2, []int{0}, api.OK}, {circle(12), 2, []int{0}, api.OK}, {edges(12), 0, []int{0}, api.OK}, {edges(4, edge(0, 1, 2), edge(1, 2, 1), edge(2, 3, 1)), 1, []int{0, 1}, api.OK}, {edges(4, edge(0, 3, 2), edge(1, 2, 2), edge(2, 3, 1)), 1, []int{0, 3}, api.OK},
		// Not connected: the vertices behind 1 may come before those of the component of 0.
		{edges(4, edge(0, 3, 1)), 0, []int{0, 1, 3}, api.OK}, {edges(5, edge(0, 4, 1), edge(1, 2, 1)), 0, []int{0, 1, 2, 4}, api.OK}, {edges(4, edge(0, 2, 2), edge(1, 2, 1), edge(1, 3, 1), edge(2, 2, 9)), 1, []int{0, 1, 2}, api.OK}, {edges(4, edge(0, 1, 2), edge(0, 2, 2), edge(0, 3, 1)), 1, []int{0, 1, 2}, api.OK},
		{full(12, 50), 550, []int{0}, api.OK}, {full(2, 1), 1, []int{0}, api.OK},
	} {
		n, set, e := connect.Connectivity(x.g)
		agrees(t, "Connectivity", x.g, set, e, x.want, x.e)
		if n != x.n {
			t.Errorf("Connectivity of %v: %d instead of %d", x.g, n, x.n)
		}
	}
}
