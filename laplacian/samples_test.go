package laplacian_test

import (
	"math"
	"math/big"
	"math/rand"
	"slices"
	"testing"

	"sandpile/api"
	"sandpile/laplacian"
)

// edges is a short name for graphs.
func edges(n int, l ...api.Edge) api.Graph { return api.Graph{N: n, Edges: l} }

// edge is a short name for edges.
func edge(a, b, mult int) api.Edge { return api.Edge{A: a, B: b, Mult: mult} }

// example is the graph of the examples.
func example() api.Graph { return edges(3, edge(0, 1, 1), edge(0, 2, 1), edge(1, 2, 2)) }

// looped is a graph with the single edges 0-0, 0-1, 0-1, 0-2, 1-2, 2-3, 3-3 and 3-3.
func looped() api.Graph {
	return edges(4, edge(0, 0, 1), edge(0, 1, 2), edge(0, 2, 1), edge(1, 2, 1), edge(2, 3, 1), edge(3, 3, 2))
}

// star returns the graph in which a vertex is joined once to each other one.
func star(n, center int) api.Graph {
	g := edges(n)
	for v := range n {
		if v != center {
			g.Edges = append(g.Edges, edge(min(v, center), max(v, center), 1))
		}
	}
	return g
}

// random returns a graph with n vertices, of which some pairs are joined.
func random(r *rand.Rand, n int, share float64, mult int) api.Graph {
	g := edges(n)
	for a := range n {
		for b := a; b < n; b++ {
			if r.Float64() < share {
				g.Edges = append(g.Edges, edge(a, b, 1+r.Intn(mult)))
			}
		}
	}
	return g
}

// full returns the graph in which every edge and every loop occurs some times.
func full(n, mult int) api.Graph {
	g := random(rand.New(rand.NewSource(1)), n, 2, 1)
	for i := range g.Edges {
		g.Edges[i].Mult = mult
	}
	return g
}

// small returns graphs with so few single edges that all sets of them can be looked at.
func small() []api.Graph {
	l := []api.Graph{
		edges(1), edges(1, edge(0, 0, 1)), edges(1, edge(0, 0, 3)), edges(2), edges(2, edge(0, 0, 1)), edges(2, edge(0, 1, 1)), edges(2, edge(0, 1, 5)), edges(2, edge(0, 0, 2), edge(0, 1, 1), edge(1, 1, 1)),
		example(), looped(), star(5, 0), star(5, 3), full(2, 2), full(3, 1), edges(12), edges(4, edge(0, 1, 3), edge(2, 3, 3)), edges(4, edge(0, 1, 1), edge(0, 2, 1), edge(1, 2, 1)), edges(4, edge(1, 2, 1), edge(1, 3, 1), edge(2, 3, 1)), edges(3, edge(0, 2, 1), edge(1, 1, 1)), star(9, 8),
	}
	r := rand.New(rand.NewSource(60))
	for len(l) < 250 {
		g := random(r, 1+r.Intn(6), []float64{0.3, 0.5, 0.7}[r.Intn(3)], 1+r.Intn(3))
		if len(ends(g)) <= 9 {
			l = append(l, g)
		}
	}
	return l
}

// large returns graphs of any size.
func large() []api.Graph {
	l := []api.Graph{full(12, 1), full(12, api.MaxMult), full(11, 49), full(5, 3), edges(1, edge(0, 0, api.MaxMult)), edges(2, edge(0, 1, api.MaxMult)), edges(12, edge(0, 11, 50)), star(12, 11)}
	r := rand.New(rand.NewSource(61))
	for len(l) < 120 {
		l = append(l, random(r, 1+r.Intn(api.MaxVertices), []float64{0.2, 0.3, 0.5, 0.9}[r.Intn(4)], []int{1, 2, 5, 50}[r.Intn(4)]))
	}
	return l
}

// samples returns graphs of all kinds.
func samples() []api.Graph { return append(small(), large()...) }

// faulty is a graph that is not in normal form, and the error.
type faulty struct {
	g api.Graph
	e api.Errno
}

func wrong() []faulty {
	return []faulty{
		{api.Graph{}, api.ErrRange}, {edges(-1), api.ErrRange}, {edges(13), api.ErrRange}, {edges(math.MinInt), api.ErrRange}, {edges(math.MaxInt), api.ErrRange}, {edges(1, edge(0, 1, 1)), api.ErrRange}, {edges(3, edge(-1, 0, 1)), api.ErrRange}, {edges(3, edge(0, 3, 1)), api.ErrRange}, {edges(3, edge(0, 1, 0)), api.ErrRange}, {edges(3, edge(0, 1, 51)), api.ErrRange}, {edges(3, edge(0, 1, math.MaxInt)), api.ErrRange}, {edges(3, edge(math.MinInt, math.MaxInt, 1)), api.ErrRange},
		{edges(3, edge(1, 0, 1)), api.ErrOrder}, {edges(3, edge(0, 1, 1), edge(0, 1, 1)), api.ErrOrder}, {edges(3, edge(0, 2, 1), edge(0, 1, 1)), api.ErrOrder}, {edges(3, edge(1, 0, 1), edge(0, 3, 1)), api.ErrOrder}, {edges(3, edge(0, 1, 1), edge(1, 2, 1), edge(0, 2, 1)), api.ErrOrder}, {edges(12, make([]api.Edge, 5000)...), api.ErrRange}, {edges(12, slices.Repeat([]api.Edge{edge(2, 3, 4)}, 5000)...), api.ErrOrder},
	}
}

// outside returns numbers that are none of the n first ones.
func outside(n int) []int { return []int{-1, -2, n, n + 1, math.MinInt, math.MaxInt} }

// arguments are those of all functions: a script, two vertices and a single edge.
type arguments struct {
	g        api.Graph
	s        api.Script
	row, col int
	e        int
}

// results are what all functions return.
type results struct {
	matrices map[string]api.Matrix
	numbers  map[string]api.Int
	image    api.Divisor
	e        map[string]api.Errno
}

// calls calls all functions.
func (x arguments) calls() results {
	r := results{matrices: map[string]api.Matrix{}, numbers: map[string]api.Int{}, e: map[string]api.Errno{}}
	r.matrices["Full"], r.e["Full"] = laplacian.Full(x.g)
	r.matrices["Reduced"], r.e["Reduced"] = laplacian.Reduced(x.g, x.row)
	r.numbers["Trees"], r.e["Trees"] = laplacian.Trees(x.g)
	r.numbers["Cofactor"], r.e["Cofactor"] = laplacian.Cofactor(x.g, x.row, x.col)
	r.image, r.e["Image"] = laplacian.Image(x.g, x.s)
	r.numbers["With"], r.e["With"] = laplacian.With(x.g, x.e)
	return r
}

// isZero tells whether the results of a function are zero values.
func (r results) isZero(name string) bool {
	m := r.matrices[name]
	return m.Rows == 0 && m.Cols == 0 && len(m.Cells) == 0 && r.numbers[name] == "" && (name != "Image" || len(r.image) == 0)
}

// must returns what a function returns that has no error.
func must[T any](t *testing.T) func(x T, e api.Errno) T {
	return func(x T, e api.Errno) T {
		t.Helper()
		if e != api.OK {
			t.Fatalf("%v beside the error %d", x, e)
		}
		return x
	}
}

// agreesMatrix checks a matrix with given rows.
func agreesMatrix(t *testing.T, name string, what any, m api.Matrix, e api.Errno, rows [][]int) {
	t.Helper()
	var cells []api.Int
	for _, row := range rows {
		for _, n := range row {
			cells = append(cells, text(big.NewInt(int64(n))))
		}
	}
	if m.Rows != len(rows) || m.Cols != len(rows) || !slices.Equal(m.Cells, cells) || e != api.OK {
		t.Errorf("%s of %v: %v beside the error %d, want the rows %v", name, what, m, e, rows)
	}
}

// agrees checks a number and an error.
func agrees(t *testing.T, name string, what any, n api.Int, e api.Errno, want api.Int, error api.Errno) {
	t.Helper()
	if n != want || e != error {
		t.Errorf("%s of %v: %q beside the error %d, want %q beside %d", name, what, n, e, want, error)
	}
}

// agreesImage checks an image and an error.
func agreesImage(t *testing.T, what any, d api.Divisor, e api.Errno, want api.Divisor, error api.Errno) {
	t.Helper()
	if !slices.Equal(d, want) || e != error {
		t.Errorf("Image of %v: %v beside the error %d, want %v beside %d", what, d, e, want, error)
	}
}

// text returns a number as an integer.
func text(n *big.Int) api.Int { return api.Int(n.String()) }

// ends returns the ends of the single edges.
func ends(g api.Graph) [][2]int {
	var l [][2]int
	for _, x := range g.Edges {
		l = append(l, slices.Repeat([][2]int{{x.A, x.B}}, x.Mult)...)
	}
	return l
}

// rows returns the rows of the Laplacian, single edge by single edge.
func rows(g api.Graph) [][]int {
	m := make([][]int, g.N)
	for v := range m {
		m[v] = make([]int, g.N)
	}
	for _, x := range ends(g) {
		if a, b := x[0], x[1]; a != b {
			m[a][a]++
			m[b][b]++
			m[a][b]--
			m[b][a]--
		}
	}
	return m
}

// cut returns the rows without a row and a column.
func cut(m [][]int, row, col int) [][]int {
	rest := [][]int{}
	for i, l := range m {
		if i != row {
			rest = append(rest, slices.Delete(slices.Clone(l), col, col+1))
		}
	}
	return rest
}

// expanded returns the determinant by its definition: along the first row.
func expanded(m [][]int) int {
	if len(m) == 0 {
		return 1
	}
	sum, sign := 0, 1
	for k, n := range m[0] {
		if n != 0 {
			sum += sign * n * expanded(cut(m, 0, k))
		}
		sign = -sign
	}
	return sum
}

// determinant returns the determinant by fractions.
func determinant(l [][]int) *big.Int {
	var m [][]*big.Rat
	for _, row := range l {
		var r []*big.Rat
		for _, n := range row {
			r = append(r, big.NewRat(int64(n), 1))
		}
		m = append(m, r)
	}
	product := big.NewRat(1, 1)
	for k := range m {
		pivot := slices.IndexFunc(m[k:], func(row []*big.Rat) bool { return row[k].Sign() != 0 })
		if pivot < 0 {
			return new(big.Int)
		}
		if pivot > 0 {
			m[k], m[k+pivot] = m[k+pivot], m[k]
			product.Neg(product)
		}
		product.Mul(product, m[k][k])
		for i := k + 1; i < len(m); i++ {
			factor := new(big.Rat).Quo(m[i][k], m[k][k])
			for j := k; j < len(m); j++ {
				m[i][j].Sub(m[i][j], new(big.Rat).Mul(factor, m[k][j]))
			}
		}
	}
	return product.Num()
}

// parts returns how many components a graph has with some of its single edges.
func parts(n int, of [][2]int) int {
	at := make([]int, n)
	for v := range at {
		at[v] = v
	}
	for _, x := range of {
		kept, other := at[x[0]], at[x[1]]
		for v := range at {
			if at[v] == other {
				at[v] = kept
			}
		}
	}
	slices.Sort(at)
	return len(slices.Compact(at))
}

// listed returns the spanning trees of a small graph: all sets of as many single edges as it needs that connect it.
func listed(g api.Graph) [][]int {
	of := ends(g)
	var l [][]int
	for mask := range 1 << len(of) {
		var set []int
		var taken [][2]int
		for e := range of {
			if mask>>e&1 == 1 {
				set, taken = append(set, e), append(taken, of[e])
			}
		}
		if len(set) == g.N-1 && parts(g.N, taken) == 1 {
			l = append(l, set)
		}
	}
	return l
}
