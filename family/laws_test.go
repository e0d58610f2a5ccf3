package family_test

import (
	"math"
	"math/rand"
	"slices"
	"strconv"
	"testing"

	"sandpile/abelian"
	"sandpile/api"
	"sandpile/connect"
	"sandpile/family"
	"sandpile/graph"
	"sandpile/matrix"
	"sandpile/smith"
)

// Tests of P11.3, and of P1 for package family.

func TestConnected(t *testing.T) {
	for _, x := range right() {
		g := must[api.Graph](t)(family.Make(x.kind, x.sizes))
		if e := graph.Check(g); e != api.OK {
			t.Errorf("%v has the error %d", x, e)
		}
		if !must[bool](t)(connect.Connected(g)) {
			t.Errorf("%v is not connected", x)
		}
		n, e := family.Genus(x.kind, x.sizes)
		agrees(t, "Genus", x, n, e, must[int](t)(graph.Genus(g)), api.OK)
	}
}

// known returns the members whose critical groups are known.
func known() []member {
	return slices.DeleteFunc(right(), func(x member) bool { return x.kind == family.Grid })
}

// TestTreesOneByOne counts the spanning trees.
func TestTreesOneByOne(t *testing.T) {
	counted := 0
	for _, x := range known() {
		trees := must[int](t)(family.Trees(x.kind, x.sizes))
		if trees > 20000 {
			continue
		}
		counted++
		g := must[api.Graph](t)(family.Make(x.kind, x.sizes))
		if n := countTrees(g.N, must[[][2]int](t)(graph.Ends(g)), nil); n != trees {
			t.Errorf("%v has %d spanning trees, and %d are counted", x, trees, n)
		}
	}
	if counted < 400 {
		t.Errorf("only %d graphs are looked at", counted)
	}
}

// countTrees counts the spanning trees that have some single edges, which are on no cycle, and otherwise only single edges of ends.
func countTrees(n int, ends, taken [][2]int) int {
	if len(taken) == n-1 {
		return 1
	}
	if classes(n, slices.Concat(ends, taken)) > 1 {
		return 0
	}
	count := countTrees(n, ends[1:], taken)
	more := append(slices.Clone(taken), ends[0])
	if classes(n, more) == n-len(more) {
		count += countTrees(n, ends[1:], more)
	}
	return count
}

// classes returns the number of components.
func classes(n int, ends [][2]int) int {
	of := make([]int, n)
	for v := range of {
		of[v] = v
	}
	for _, x := range ends {
		a, b := of[x[0]], of[x[1]]
		if a == b {
			continue
		}
		n--
		for v := range of {
			if of[v] == b {
				of[v] = a
			}
		}
	}
	return n
}

// TestGroups compares the orders with the Smith form of the matrix that says how vertices other than the last one are joined.
func TestGroups(t *testing.T) {
	for _, x := range known() {
		g := must[api.Graph](t)(family.Make(x.kind, x.sizes))
		var cells []int
		for v := range g.N - 1 {
			for w := range g.N - 1 {
				cell := -must[int](t)(graph.Between(g, v, w))
				if v == w {
					cell = must[int](t)(graph.Valence(g, v))
				}
				cells = append(cells, cell)
			}
		}
		m := must[api.Matrix](t)(matrix.Make(g.N-1, g.N-1, cells))
		trees := must[int](t)(family.Trees(x.kind, x.sizes))
		if determinant := must[api.Int](t)(matrix.Determinant(m)); string(determinant) != strconv.Itoa(trees) {
			t.Errorf("%v has %d spanning trees, but the determinant %s", x, trees, determinant)
		}
		orders := must[[]int](t)(family.Cyclic(x.kind, x.sizes))
		product := 1
		diagonal := make([]int, len(orders)*len(orders))
		for i, order := range orders {
			product *= order
			diagonal[i*len(orders)+i] = order
		}
		if product != trees {
			t.Errorf("%v has %d spanning trees, but the orders %v", x, trees, orders)
		}
		group := groupOf(t, m)
		if cyclic := must[api.Matrix](t)(matrix.Make(len(orders), len(orders), diagonal)); !slices.Equal(group, groupOf(t, cyclic)) {
			t.Errorf("%v has the orders %v, but the group %v", x, orders, group)
		}
	}
}

// groupOf returns the invariant factors of the group whose relations are the rows of a matrix.
func groupOf(t *testing.T, m api.Matrix) []api.Int {
	t.Helper()
	return must[[]api.Int](t)(abelian.Of(must[[]api.Int](t)(smith.Diagonal(m))))
}

func TestSameGraphs(t *testing.T) {
	equal := func(x, y member) {
		t.Helper()
		agreesGraph(t, x, must[api.Graph](t)(family.Make(y.kind, y.sizes)), api.OK)
	}
	equal(member{family.Complete, []int{3}}, member{family.Cycle, []int{3}})
	equal(member{family.Theta, []int{1, 1, 1}}, member{family.Banana, []int{3}})
	equal(member{family.Wheel, []int{3}}, member{family.Complete, []int{4}})
	for n := 1; n <= 11; n++ {
		equal(member{family.Bipartite, []int{1, n}}, member{family.Star, []int{n}})
	}
	for n := 1; n <= 12; n++ {
		equal(member{family.Grid, []int{1, n}}, member{family.Path, []int{n}})
	}
}

// TestTotal calls every function with all kinds of arguments: a panic fails the test, and beside an error everything is zero.
func TestTotal(t *testing.T) {
	r := rand.New(rand.NewSource(21))
	ints := []int{math.MinInt, -1, 0, 1, 1, 2, 3, 4, 11, 12, 13, 50, 51, 1 << 31, 1 << 32, 1 << 62, math.MaxInt}
	for range 50000 {
		x := member{kind: r.Intn(11) - 1}
		if r.Intn(20) == 0 {
			x.kind = ints[r.Intn(len(ints))]
		}
		for range r.Intn(5) {
			x.sizes = append(x.sizes, ints[r.Intn(len(ints))])
		}
		fault := x.fault()
		g, e := family.Make(x.kind, x.sizes)
		if e != fault || e != api.OK && !same(g, api.Graph{}) {
			t.Errorf("%v: %v beside the error %d, want %d", x, g, e, fault)
		}
		n, e := family.Genus(x.kind, x.sizes)
		if e != fault || e != api.OK && n != 0 {
			t.Errorf("Genus of %v: %d beside the error %d, want %d", x, n, e, fault)
		}
		if fault == api.OK && x.kind == family.Grid {
			fault = api.ErrState
		}
		n, e = family.Trees(x.kind, x.sizes)
		if e != fault || e != api.OK && n != 0 {
			t.Errorf("Trees of %v: %d beside the error %d, want %d", x, n, e, fault)
		}
		l, e := family.Cyclic(x.kind, x.sizes)
		if e != fault || e != api.OK && len(l) != 0 {
			t.Errorf("Cyclic of %v: %v beside the error %d, want %d", x, l, e, fault)
		}
	}
}

// TestMemory changes results, and looks at the arguments and at other results.
func TestMemory(t *testing.T) {
	for _, x := range known() {
		s := append(make([]int, 0, 20), x.sizes...)
		for range 2 {
			g := must[api.Graph](t)(family.Make(x.kind, s))
			must[int](t)(family.Genus(x.kind, s))
			must[int](t)(family.Trees(x.kind, s))
			l := must[[]int](t)(family.Cyclic(x.kind, s))
			if !same(g, x.graph()) || !slices.Equal(l, x.orders()) {
				t.Errorf("%v: %v with the orders %v", x, g, l)
			}
			for i := range g.Edges {
				g.Edges[i] = edge(9, 9, 9)
			}
			for i := range l {
				l[i] = 99
			}
			_ = append(g.Edges, edge(9, 9, 9))
			_ = append(l, 99)
		}
		if !slices.Equal(s, x.sizes) || !slices.Equal(s[len(s):20], make([]int, 20-len(s))) {
			t.Errorf("the sizes %v are now %v", x.sizes, s[:20])
		}
	}
}
