package lattice_test

import (
	"fmt"
	"math"
	"math/big"
	"math/rand"
	"slices"
	"testing"

	"sandpile/api"
	"sandpile/graph"
	"sandpile/laplacian"
	"sandpile/lattice"
	"sandpile/matrix"
)

// Tests of P16.3, and of P1 for package lattice.

// TestBasesAreOrthogonal also counts the vectors of both bases.
func TestBasesAreOrthogonal(t *testing.T) {
	for _, g := range samples() {
		if len(ends(g)) > 500 {
			continue
		}
		cycles, cuts := must[[][]int](t)(lattice.Cycles(g)), must[[][]int](t)(lattice.Cuts(g))
		if len(cycles) != must[int](t)(graph.Genus(g)) || len(cuts) != g.N-1 {
			t.Errorf("%v has %d cycles and %d cuts", g, len(cycles), len(cuts))
		}
		for _, x := range cycles {
			for _, y := range cuts {
				if p := must[int](t)(lattice.Product(x, y)); p != 0 {
					t.Errorf("the product of %v and %v is %d", x, y, p)
				}
			}
		}
	}
}

// TestElementsAreSums makes elements of both lattices in another way, and adds them up from the bases.
func TestElementsAreSums(t *testing.T) {
	r := rand.New(rand.NewSource(75))
	for _, g := range samples() {
		size, tree := len(ends(g)), greedy(g)
		cuts := must[[][]int](t)(lattice.Cuts(g))
		for range 3 {
			x := must[[]int](t)(lattice.Coboundary(g, some(r, g.N, 1000)))
			agrees(t, "the sum of cuts", g, sum(size, cuts, picked(x, tree)), api.OK, x, api.OK)
		}
		if size > 500 {
			continue
		}
		cycles := must[[][]int](t)(lattice.Cycles(g))
		for range 3 {
			x := walk(r, g)
			agrees(t, "the sum of cycles", g, sum(size, cycles, picked(x, others(g, tree))), api.OK, x, api.OK)
			if cycle, _, e := lattice.Kind(g, x); !cycle || e != api.OK {
				t.Errorf("%v on %v is no cycle", x, g)
			}
		}
	}
}

// walk returns how often a random closed walk goes along each single edge.
func walk(r *rand.Rand, g api.Graph) []int {
	of := ends(g)
	x := make([]int, len(of))
	if len(of) == 0 {
		return x
	}
	at, steps := 0, 0
	for steps < 50 || at != 0 {
		e := r.Intn(len(of))
		switch at {
		case of[e][0]:
			x[e]++
			at = of[e][1]
		case of[e][1]:
			x[e]--
			at = of[e][0]
		}
		steps++
	}
	return x
}

func TestPartsAreOrthogonal(t *testing.T) {
	r := rand.New(rand.NewSource(76))
	for _, g := range whole() {
		x := some(r, len(ends(g)), 20)
		cycle, cut, e := lattice.Split(g, x)
		if e != api.OK {
			t.Fatalf("%v on %v has the error %d", x, g, e)
		}
		product, c := new(big.Rat), numbers(t, cycle)
		for i, n := range numbers(t, cut) {
			product.Add(product, n.Mul(n, c[i]))
		}
		if product.Sign() != 0 {
			t.Errorf("the product of %v and %v is %v", cycle, cut, product)
		}
	}
}

// TestPartsOfElements splits elements of both lattices: one part is the vector itself, the other one is 0.
func TestPartsOfElements(t *testing.T) {
	r := rand.New(rand.NewSource(77))
	for _, g := range whole() {
		size := len(ends(g))
		zero := fractions(make([]int, size))
		x := walk(r, g)
		cycle, cut, e := lattice.Split(g, x)
		agrees(t, "the part of cycles", x, cycle, e, fractions(x), api.OK)
		agrees(t, "the part of cuts", x, cut, e, zero, api.OK)
		x = differences(g, some(r, g.N, 4000))
		cycle, cut, e = lattice.Split(g, x)
		agrees(t, "the part of cycles", x, cycle, e, zero, api.OK)
		agrees(t, "the part of cuts", x, cut, e, fractions(x), api.OK)
	}
}

// fractions returns ints as fractions.
func fractions(x []int) []api.Frac {
	var l []api.Frac
	for _, n := range x {
		l = append(l, api.Frac{Num: api.Int(fmt.Sprint(n)), Den: "1"})
	}
	return l
}

// TestGramOfBases takes graphs whose bases have few vectors.
func TestGramOfBases(t *testing.T) {
	compared := 0
	for _, g := range samples() {
		cuts := must[[][]int](t)(lattice.Cuts(g))
		trees := must[api.Int](t)(laplacian.Trees(g))
		if d := must[api.Int](t)(matrix.Determinant(must[api.Matrix](t)(lattice.Gram(cuts)))); d != trees {
			t.Errorf("%v has %s trees, but the Gram matrix of its cuts has the determinant %s", g, trees, d)
		}
		if genus := must[int](t)(graph.Genus(g)); genus > api.MaxSide || g.N > 6 && genus > 6 {
			continue
		}
		cycles := must[[][]int](t)(lattice.Cycles(g))
		if d := must[api.Int](t)(matrix.Determinant(must[api.Matrix](t)(lattice.Gram(cycles)))); d != trees {
			t.Errorf("%v has %s trees, but the Gram matrix of its cycles has the determinant %s", g, trees, d)
		}
		d, e := lattice.Discriminant(cycles)
		agrees(t, "Discriminant", g, d, e, must[[]api.Int](t)(lattice.Discriminant(cuts)), api.OK)
		if len(d) > 1 {
			compared++
		}
	}
	if compared < 20 {
		t.Errorf("only %d discriminants have several elements", compared)
	}
}

// TestTotal calls every function with all kinds of arguments: a panic fails the test, and beside an error everything is zero.
func TestTotal(t *testing.T) {
	r := rand.New(rand.NewSource(78))
	ints := []int{math.MinInt, -api.MaxChips - 1, -api.MaxChips, -1, 0, 0, 0, 1, 1, 1, 2, 2, 3, 4, 5, 11, 12, 13, 50, 51, api.MaxChips, api.MaxChips + 1, math.MaxInt}
	any := func() int { return ints[r.Intn(len(ints))] }
	list := func(n int) []int {
		var l []int
		for range n {
			l = append(l, any())
		}
		return l
	}
	right := slices.DeleteFunc(append(whole(), apart()...), func(g api.Graph) bool { return len(ends(g)) > 20 })
	for range 10000 {
		g := right[r.Intn(len(right))]
		if r.Intn(3) == 0 {
			g = edges(any())
			for range r.Intn(4) {
				g.Edges = append(g.Edges, edge(any(), any(), any()))
			}
		}
		x := arguments{g: g, x: list(r.Intn(6)), f: list(r.Intn(6))}
		for range r.Intn(4) {
			x.l = append(x.l, list(r.Intn(3)))
		}
		if graph.Check(g) == api.OK && r.Intn(2) == 0 {
			x.x, x.f = some(r, len(ends(g)), api.MaxChips), some(r, g.N, api.MaxChips)
		}
		got := x.calls()
		for name, e := range got.e {
			if e != api.OK && !got.isZero(name) {
				t.Errorf("%s of %v has a result beside the error %d", name, x, e)
			}
		}
	}
}

// TestMemory changes results, and looks at the arguments and at other results.
func TestMemory(t *testing.T) {
	// The arguments have spare capacity, in which nothing may be written either.
	spare := func(l []int) []int { return append(make([]int, 0, 20), l...) }
	l, vector, potential := looped().Edges, []int{1, 2, 3, 4, 5, 6, 7, 8}, []int{1, 3, 5, 8}
	x := arguments{edges(4, append(make([]api.Edge, 0, 20), l...)...), spare(vector), spare(potential), append(make([][]int, 0, 20), spare(vector), spare([]int{1, 0, 0, 1, 0, 0, 1, 0}))}
	first, second := x.calls(), x.calls()
	before := fmt.Sprint(second)
	for _, lists := range first.lists {
		for i, l := range lists {
			rest := fmt.Sprint(lists[i+1:])
			for j := range l {
				l[j] = 99
			}
			_ = append(l, 99, 99, 99)
			if fmt.Sprint(lists[i+1:]) != rest {
				t.Errorf("%v changes with another list", lists)
			}
		}
	}
	rest := fmt.Sprint(first.fracs[1])
	for i := range first.fracs[0] {
		first.fracs[0][i] = api.Frac{}
	}
	_ = append(first.fracs[0], api.Frac{})
	if fmt.Sprint(first.fracs[1]) != rest {
		t.Errorf("%v changes with another part", first.fracs)
	}
	for i := range first.gram.Cells {
		first.gram.Cells[i] = "99"
	}
	for i := range first.ints {
		first.ints[i] = "99"
	}
	if now := fmt.Sprint(second); now != before {
		t.Errorf("%s changes to %s with another result", before, now)
	}
	if again := fmt.Sprint(x.calls()); again != before {
		t.Errorf("%s instead of %s", again, before)
	}
	for got, want := range map[*[]int][]int{&x.x: vector, &x.f: potential, &x.l[0]: vector, &x.l[1]: {1, 0, 0, 1, 0, 0, 1, 0}} {
		if !slices.Equal((*got)[:20], append(slices.Clone(want), make([]int, 20-len(want))...)) {
			t.Errorf("%v is now %v", want, (*got)[:20])
		}
	}
	if !slices.Equal(x.g.Edges, l) || !slices.Equal(x.g.Edges[6:20], make([]api.Edge, 14)) || x.l[:3][2] != nil {
		t.Errorf("the arguments are now %v and %v", x.g.Edges[:20], x.l[:20])
	}
}
