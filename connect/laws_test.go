package connect_test

import (
	"fmt"
	"math"
	"math/rand"
	"slices"
	"testing"

	"sandpile/api"
	"sandpile/connect"
	"sandpile/graph"
)

// Tests of P10.3, and of P1 for package connect.

func TestWithoutBridges(t *testing.T) {
	for _, g := range samples() {
		size := len(ends(g))
		if size > 500 {
			continue
		}
		whole := must[[][]int](t)(connect.Components(g))
		bridges := must[[]int](t)(connect.Bridges(g))
		for i := range size {
			without := slices.DeleteFunc(all(size), func(j int) bool { return j == i })
			more := len(must[[][]int](t)(connect.Parts(g, without))) - len(whole)
			if more != 0 && more != 1 || (more == 1) != slices.Contains(bridges, i) {
				t.Errorf("%v has the bridges %v, but without %d there are %d components more", g, bridges, i, more)
			}
		}
	}
}

func TestBlocksAddUp(t *testing.T) {
	for _, g := range samples() {
		of := ends(g)
		var together []int
		sum, first := 0, -1
		for _, block := range must[[][]int](t)(connect.Blocks(g)) {
			if block[0] <= first || !slices.IsSorted(block) {
				t.Errorf("%v has the block %v behind that of %d", g, block, first)
			}
			first = block[0]
			together = append(together, block...)
			// The genus of the block is that of the graph of its single edges: other vertices change nothing.
			var some [][2]int
			for _, i := range block {
				some = append(some, of[i])
			}
			sum += must[int](t)(graph.Genus(must[api.Graph](t)(graph.Make(g.N, some))))
		}
		slices.Sort(together)
		if !slices.Equal(together, all(len(of))) {
			t.Errorf("%v has the single edges %v in its blocks", g, together)
		}
		if genus := must[int](t)(graph.Genus(g)); genus != sum {
			t.Errorf("%v has the genus %d, its blocks have %d", g, genus, sum)
		}
	}
}

func TestLeastCuts(t *testing.T) {
	r := rand.New(rand.NewSource(7))
	for _, g := range samples() {
		if g.N == 1 {
			continue
		}
		n, set, e := connect.Connectivity(g)
		if e != api.OK || len(set) == 0 || set[0] != 0 || len(set) >= g.N {
			t.Fatalf("Connectivity of %v: %v beside the error %d", g, set, e)
		}
		if cut := must[[]int](t)(graph.Cut(g, set)); len(cut) != n {
			t.Errorf("%v has the connectivity %d, but %v the cut %v", g, n, set, cut)
		}
		connected := must[bool](t)(connect.Connected(g))
		if connected != (n > 0) || connected != must[bool](t)(connect.Bond(g, set)) {
			t.Errorf("%v has the connectivity %d, with %v", g, n, set)
		}
		for range 30 {
			other := subset(1 + r.Intn(1<<g.N-2))
			if cut := must[[]int](t)(graph.Cut(g, other)); len(cut) < n {
				t.Errorf("%v has the connectivity %d, but %v the cut %v", g, n, other, cut)
			}
		}
	}
}

// TestArticulationsAtBlocks compares the articulations with the blocks: they are at several ones that are no loops.
func TestArticulationsAtBlocks(t *testing.T) {
	for _, g := range samples() {
		of := ends(g)
		at := make([]map[int]bool, g.N)
		for v := range at {
			at[v] = map[int]bool{}
		}
		for i, block := range must[[][]int](t)(connect.Blocks(g)) {
			for _, number := range block {
				if x := of[number]; x[0] != x[1] {
					at[x[0]][i], at[x[1]][i] = true, true
				}
			}
		}
		var want []int
		for v := range at {
			if len(at[v]) > 1 {
				want = append(want, v)
			}
		}
		l, e := connect.Articulations(g)
		agrees(t, "Articulations", g, l, e, want, api.OK)
	}
}

// TestTotal calls every function with all kinds of arguments: a panic fails the test, and beside an error everything is zero.
func TestTotal(t *testing.T) {
	r := rand.New(rand.NewSource(8))
	ints := []int{math.MinInt, -1, 0, 0, 1, 1, 2, 3, 4, 11, 12, 13, 50, 51, math.MaxInt}
	some := func() int { return ints[r.Intn(len(ints))] }
	list := func() []int {
		var l []int
		for range r.Intn(5) {
			l = append(l, some())
		}
		return l
	}
	right := samples()
	for range 20000 {
		g := right[r.Intn(400)]
		if r.Intn(2) == 0 {
			g = edges(some())
			for range r.Intn(4) {
				g.Edges = append(g.Edges, edge(some(), some(), some()))
			}
		}
		got := calls(g, list(), list())
		for name, e := range got.e {
			if e != api.OK && !got.isZero(name) {
				t.Errorf("%s of %v has a result beside the error %d", name, g, e)
			}
		}
	}
}

// TestMemory changes results, and looks at the arguments and at other results.
func TestMemory(t *testing.T) {
	// The arguments have spare capacity, in which nothing may be written either.
	g := edges(5, append(make([]api.Edge, 0, 20), example().Edges...)...)
	l := append(make([]int, 0, 20), 0, 3, 6)
	set := append(make([]int, 0, 20), 0, 1)
	first, second := calls(g, l, set), calls(g, l, set)
	before := fmt.Sprint(second)
	for _, lists := range first.lists {
		for i, l := range lists {
			rest := fmt.Sprint(lists[i+1:])
			for j := range l {
				l[j] = 99
			}
			_ = append(l, 99, 99, 99)
			if fmt.Sprint(lists[i+1:]) != rest {
				t.Errorf("%v changes with another list", lists)
			}
		}
		_ = append(lists, nil)
	}
	if now := fmt.Sprint(second); now != before {
		t.Errorf("%s changes to %s with another result", before, now)
	}
	if again := fmt.Sprint(calls(g, l, set)); again != before {
		t.Errorf("%s instead of %s", again, before)
	}
	if !slices.Equal(g.Edges, example().Edges) || !slices.Equal(g.Edges[6:20], make([]api.Edge, 14)) || !slices.Equal(l[:20], append([]int{0, 3, 6}, make([]int, 17)...)) || !slices.Equal(set[:20], append([]int{0, 1}, make([]int, 18)...)) {
		t.Errorf("the arguments are now %v, %v and %v", g.Edges[:20], l[:20], set[:20])
	}
}
