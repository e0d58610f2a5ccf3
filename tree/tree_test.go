package tree_test

import (
	"math"
	"math/rand"
	"slices"
	"testing"

	"sandpile/api"
	"sandpile/tree"
)

// Tests of P13.1.

// TestGraphErrors calls all functions with graphs that are not in normal form, or not connected: these errors come before that of any other argument.
func TestGraphErrors(t *testing.T) {
	graphs := wrong()
	for _, g := range apart() {
		graphs = append(graphs, faulty{g, api.ErrParted})
	}
	for _, x := range graphs {
		for _, l := range [][]int{nil, {0}, {0, 1}, {0, 2}, {1, 0}, {-1}, {0, 1, 2, 3, 4, 5, 6, 7, 8, 9, 10}, {math.MaxInt}} {
			for _, n := range []int{0, 1, -1, math.MaxInt} {
				got := arguments{x.g, l, n, n, n, n}.calls()
				if len(got.e) != 9 {
					t.Fatalf("%d functions are called", len(got.e))
				}
				for name, e := range got.e {
					if e != x.e || !got.isZero(name) {
						t.Errorf("%s of %.200v has the error %d, want %d", name, x.g, e, x.e)
					}
				}
			}
		}
	}
}

// treeErrors checks that a list has the same error for all functions with a tree, whatever the other arguments are.
func treeErrors(t *testing.T, g api.Graph, l []int, want api.Errno) {
	t.Helper()
	for _, n := range []int{0, 1, 2, -1, math.MinInt, math.MaxInt} {
		got := arguments{g, l, n, n, n, n}.calls()
		for _, name := range []string{"Check", "Cycle", "Cutset", "Swap", "Path", "Parents"} {
			if got.e[name] != want || !got.isZero(name) {
				t.Errorf("%s of %.100v in %v has the error %d, want %d", name, l, g, got.e[name], want)
			}
		}
	}
}

func TestNoTree(t *testing.T) {
	loop, square := edges(1, edge(0, 0, 2)), edges(4, edge(0, 1, 1), edge(0, 3, 1), edge(1, 2, 1), edge(2, 3, 1))
	for _, x := range []struct {
		g api.Graph
		l []int
		e api.Errno
	}{
		// Lists that are no sets of single edges, of any length.
		{example(), []int{-1}, api.ErrRange}, {example(), []int{4}, api.ErrRange}, {example(), []int{0, 4}, api.ErrRange}, {example(), []int{0, math.MaxInt}, api.ErrRange}, {example(), []int{math.MinInt, 0}, api.ErrRange}, {example(), []int{0, 1, 2, 3, 4}, api.ErrRange}, {example(), []int{0, -1}, api.ErrRange},
		{example(), []int{2, 0}, api.ErrOrder}, {example(), []int{0, 0}, api.ErrOrder}, {example(), []int{3, 3}, api.ErrOrder}, {example(), []int{0, 2, 1}, api.ErrOrder}, {example(), []int{0, 2, 2}, api.ErrOrder}, {example(), make([]int, 5000), api.ErrOrder},
		{example(), []int{2, 0, 4}, api.ErrOrder}, {example(), []int{4, 2, 0}, api.ErrRange}, {example(), []int{1, 4, 0}, api.ErrRange}, {example(), []int{1, 1, -1}, api.ErrOrder},
		// Too few and too many single edges, also if all vertices are connected.
		{example(), nil, api.ErrShape}, {example(), []int{0}, api.ErrShape}, {example(), []int{3}, api.ErrShape}, {example(), []int{0, 1, 2}, api.ErrShape}, {example(), []int{0, 2, 3}, api.ErrShape}, {example(), all(4), api.ErrShape}, {looped(), []int{0, 1}, api.ErrShape}, {square, all(4), api.ErrShape}, {square, []int{1, 2}, api.ErrShape},
		// N - 1 single edges with a cycle.
		{example(), []int{0, 1}, api.ErrForm}, {looped(), []int{0, 1, 4}, api.ErrForm}, {looped(), []int{1, 2, 5}, api.ErrForm}, {looped(), []int{1, 3, 4}, api.ErrForm}, {looped(), []int{3, 4, 6}, api.ErrForm}, {looped(), []int{0, 6, 7}, api.ErrForm}, {edges(2, edge(0, 0, 1), edge(0, 1, 1)), []int{0}, api.ErrForm},
		// The only tree of one vertex is empty.
		{edges(1), []int{0}, api.ErrRange}, {loop, []int{0}, api.ErrShape}, {loop, []int{1}, api.ErrShape}, {loop, []int{0, 1}, api.ErrShape}, {loop, []int{2}, api.ErrRange}, {loop, []int{1, 0}, api.ErrOrder},
	} {
		treeErrors(t, x.g, x.l, x.e)
	}
}

func TestCheck(t *testing.T) {
	for _, g := range small() {
		of := ends(g)
		for k := range len(of) + 1 {
			for _, l := range sets(len(of), k) {
				want := api.OK
				switch {
				case k != g.N-1:
					want = api.ErrShape
				case !isWhole(g.N, of, l):
					want = api.ErrForm
				}
				if e := tree.Check(g, l); e != want {
					t.Errorf("%v in %v has the error %d, want %d", l, g, e, want)
				}
			}
		}
	}
	r := rand.New(rand.NewSource(42))
	for _, g := range large() {
		for range 5 {
			l := grown(r, g)
			if e := tree.Check(g, l); e != api.OK {
				t.Errorf("%v in %v has the error %d", l, g, e)
			}
		}
	}
}

func TestAll(t *testing.T) {
	for _, g := range small() {
		want := listed(g)
		l, e := tree.All(g)
		if !slices.EqualFunc(l, want, slices.Equal) || e != api.OK {
			t.Errorf("All of %v: %v beside the error %d, want %v", g, l, e, want)
		}
		if n, e := tree.Count(g); n != len(want) || e != api.OK {
			t.Errorf("Count of %v: %d beside the error %d, want %d", g, n, e, len(want))
		}
		first, e := tree.First(g)
		agrees(t, "First", g, first, e, want[0], api.OK)
	}
}

func TestAllByHand(t *testing.T) {
	for _, x := range []struct {
		g    api.Graph
		want [][]int
	}{
		{example(), [][]int{{0, 2}, {0, 3}, {1, 2}, {1, 3}, {2, 3}}}, {looped(), [][]int{{1, 3, 5}, {1, 4, 5}, {2, 3, 5}, {2, 4, 5}, {3, 4, 5}}}, {edges(1), [][]int{nil}}, {edges(1, edge(0, 0, 1)), [][]int{nil}}, {edges(1, edge(0, 0, 50)), [][]int{nil}}, {edges(2, edge(0, 1, 3)), [][]int{{0}, {1}, {2}}}, {edges(2, edge(0, 0, 2), edge(0, 1, 2), edge(1, 1, 2)), [][]int{{2}, {3}}}, {chain(1, 1, 1), [][]int{{0, 1, 2}}}, {chain(2, 2), [][]int{{0, 2}, {0, 3}, {1, 2}, {1, 3}}},
		{edges(4, edge(0, 1, 1), edge(0, 3, 1), edge(1, 2, 1), edge(2, 3, 1)), [][]int{{0, 1, 2}, {0, 1, 3}, {0, 2, 3}, {1, 2, 3}}},
	} {
		l, e := tree.All(x.g)
		if !slices.EqualFunc(l, x.want, slices.Equal) || e != api.OK {
			t.Errorf("All of %v: %v beside the error %d, want %v", x.g, l, e, x.want)
		}
	}
}

// TestNumbers compares the lists of larger graphs with determinants: as many trees in order are all of them.
func TestNumbers(t *testing.T) {
	few, many := 0, 0
	for _, g := range large() {
		n := number(g)
		l, e := tree.All(g)
		count, fault := tree.Count(g)
		if !n.IsInt64() || n.Int64() > api.MaxFound {
			many++
			if len(l) > 0 || e != api.ErrLimit || count != 0 || fault != api.ErrLimit {
				t.Errorf("%v has %v trees, but %d beside the error %d, and %d beside %d", g, n, len(l), e, count, fault)
			}
			continue
		}
		few++
		if len(l) != int(n.Int64()) || e != api.OK || count != len(l) || fault != api.OK {
			t.Errorf("%v has %v trees, but %d beside the error %d, and %d beside %d", g, n, len(l), e, count, fault)
		}
		of := ends(g)
		for i, x := range l {
			if len(x) != g.N-1 || !slices.IsSorted(x) || !isWhole(g.N, of, x) || i > 0 && slices.Compare(l[i-1], x) >= 0 {
				t.Fatalf("%v in %v behind %v", x, g, l[max(i, 1)-1])
			}
		}
	}
	if few < 10 || many < 10 {
		t.Errorf("%d graphs have few trees, %d have many", few, many)
	}
}

// TestLimit takes graphs with exactly MaxFound trees, and with more of them.
func TestLimit(t *testing.T) {
	for _, x := range []struct {
		g    api.Graph
		want int
		e    api.Errno
	}{
		{chain(4, 4, 4, 4, 4, 4, 4), 16384, api.OK}, {chain(2, 2, 2, 2, 2, 2, 2, 2, 2, 4, 8), 16384, api.OK}, {chain(32, 1, 1, 32, 16), 16384, api.OK}, {edges(4, edge(0, 0, 50), edge(0, 1, 32), edge(1, 1, 1), edge(1, 2, 32), edge(2, 3, 16), edge(3, 3, 50)), 16384, api.OK},
		// A triangle with 5 + 18 + 90 trees, and 5 and 29 single edges: 16385 trees.
		{edges(5, edge(0, 1, 5), edge(1, 2, 29), edge(2, 3, 1), edge(2, 4, 5), edge(3, 4, 18)), 0, api.ErrLimit}, {chain(4, 4, 4, 4, 4, 4, 4, 2), 0, api.ErrLimit}, {full(12, 50), 0, api.ErrLimit}, {chain(50, 50, 50, 50, 50, 50, 50, 50, 50, 50, 50), 0, api.ErrLimit},
		// 12 * 11 * 11 * 11 trees are few enough, 13 * 11 * 11 * 11 are too many.
		{chain(12, 11, 11, 11), 15972, api.OK}, {chain(13, 11, 11, 11), 0, api.ErrLimit}, {chain(50, 50, 6), 15000, api.OK}, {chain(50, 50, 7), 0, api.ErrLimit},
	} {
		n, e := tree.Count(x.g)
		if n != x.want || e != x.e {
			t.Errorf("Count of %v: %d beside the error %d, want %d beside %d", x.g, n, e, x.want, x.e)
		}
		l, e := tree.All(x.g)
		if len(l) != x.want || e != x.e {
			t.Errorf("All of %v: %d trees beside the error %d, want %d beside %d", x.g, len(l), e, x.want, x.e)
		}
		first, e := tree.First(x.g)
		agrees(t, "First", x.g, first, e, greedy(x.g), api.OK)
	}
}

// greedy returns the single edges that each join what those before do not.
func greedy(g api.Graph) []int {
	of := ends(g)
	var l []int
	for e, x := range of {
		if !reach(of, l, x[0])[x[1]] {
			l = append(l, e)
		}
	}
	return l
}

func TestFirst(t *testing.T) {
	for _, g := range samples() {
		first, e := tree.First(g)
		agrees(t, "First", g, first, e, greedy(g), api.OK)
	}
	first, e := tree.First(full(12, 50))
	agrees(t, "First", "full", first, e, []int{50, 100, 150, 200, 250, 300, 350, 400, 450, 500, 550}, api.OK)
}
