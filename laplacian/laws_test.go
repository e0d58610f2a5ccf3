package laplacian_test

import (
	"fmt"
	"math"
	"math/big"
	"math/rand"
	"slices"
	"testing"

	"sandpile/api"
	"sandpile/connect"
	"sandpile/laplacian"
	"sandpile/matrix"
)

// Tests of P15.3, and of P1 for package laplacian.

func TestRowsAndColumns(t *testing.T) {
	for _, g := range samples() {
		m := must[api.Matrix](t)(laplacian.Full(g))
		if !matrix.Same(m, must[api.Matrix](t)(matrix.Transpose(m))) {
			t.Errorf("%v is not symmetric", m)
		}
		ones, zeros := slices.Repeat([]api.Int{"1"}, g.N), slices.Repeat([]api.Int{"0"}, g.N)
		if sums := must[[]api.Int](t)(matrix.Apply(m, ones)); !slices.Equal(sums, zeros) {
			t.Errorf("the rows of %v add up to %v", m, sums)
		}
		components := must[[][]int](t)(connect.Components(g))
		if rank := must[int](t)(matrix.Rank(m)); rank != g.N-len(components) {
			t.Errorf("%v has the rank %d, and %d components", g, rank, len(components))
		}
	}
}

func TestSameCofactors(t *testing.T) {
	for _, g := range samples() {
		trees := must[api.Int](t)(laplacian.Trees(g))
		for row := range g.N {
			for col := row % 2; col < g.N; col += 1 + g.N/6 {
				if n := must[api.Int](t)(laplacian.Cofactor(g, row, col)); n != trees {
					t.Errorf("%v has the cofactor %s for %d and %d, and %s trees", g, n, row, col, trees)
				}
			}
		}
	}
}

func TestDegreeOfImages(t *testing.T) {
	r := rand.New(rand.NewSource(63))
	for _, g := range samples() {
		s := make(api.Script, g.N)
		for v := range s {
			s[v] = r.Intn(1901) - 950
		}
		sum := 0
		for _, n := range must[api.Divisor](t)(laplacian.Image(g, s)) {
			sum += n
		}
		if sum != 0 {
			t.Errorf("the image of %v on %v has the degree %d", s, g, sum)
		}
		for _, n := range []int{0, 1, -7, api.MaxChips, -api.MaxChips} {
			d, e := laplacian.Image(g, slices.Repeat(api.Script{n}, g.N))
			agreesImage(t, []any{g, n}, d, e, make(api.Divisor, g.N), api.OK)
		}
	}
}

func TestBridgesAndLoops(t *testing.T) {
	for _, g := range samples() {
		if len(ends(g)) > 300 {
			continue
		}
		trees := must[api.Int](t)(laplacian.Trees(g))
		bridges := must[[]int](t)(connect.Bridges(g))
		sum := new(big.Int)
		for e, x := range ends(g) {
			n := must[api.Int](t)(laplacian.With(g, e))
			if x[0] == x[1] && n != "0" || slices.Contains(bridges, e) && n != trees {
				t.Errorf("%s of the %s trees of %v have %d", n, trees, g, e)
			}
			with, _ := new(big.Int).SetString(string(n), 10)
			sum.Add(sum, with)
		}
		// Each tree has N - 1 single edges.
		all, _ := new(big.Int).SetString(string(trees), 10)
		if all.Mul(all, big.NewInt(int64(g.N-1))); all.Cmp(sum) != 0 {
			t.Errorf("the single edges of %v are in %v trees, want %v", g, sum, all)
		}
	}
}

// TestTotal calls every function with all kinds of arguments: a panic fails the test, and beside an error everything is zero.
func TestTotal(t *testing.T) {
	r := rand.New(rand.NewSource(64))
	ints := []int{math.MinInt, -api.MaxChips - 1, -api.MaxChips, -1, 0, 0, 0, 1, 1, 1, 2, 2, 3, 4, 5, 11, 12, 13, 50, 51, api.MaxChips, api.MaxChips + 1, math.MaxInt}
	any := func() int { return ints[r.Intn(len(ints))] }
	right := small()
	for range 20000 {
		g := right[r.Intn(len(right))]
		if r.Intn(3) == 0 {
			g = edges(any())
			for range r.Intn(4) {
				g.Edges = append(g.Edges, edge(any(), any(), any()))
			}
		}
		x := arguments{g: g, row: any(), col: any(), e: any()}
		for range r.Intn(6) {
			x.s = append(x.s, any())
		}
		got := x.calls()
		for name, e := range got.e {
			if e != api.OK && !got.isZero(name) {
				t.Errorf("%s of %v has a result beside the error %d", name, x, e)
			}
		}
	}
}

// TestMemory changes results, and looks at the arguments and at other results.
func TestMemory(t *testing.T) {
	// The arguments have spare capacity, in which nothing may be written either.
	l, script := looped().Edges, api.Script{1, 2, 3, 4}
	for e := range 8 {
		x := arguments{edges(4, append(make([]api.Edge, 0, 20), l...)...), append(make(api.Script, 0, 20), script...), e % 4, e / 2, e}
		first, second := x.calls(), x.calls()
		before := fmt.Sprint(second)
		for _, m := range first.matrices {
			for i := range m.Cells {
				m.Cells[i] = "99"
			}
			_ = append(m.Cells, "99", "99")
		}
		for v := range first.image {
			first.image[v] = 99
		}
		_ = append(first.image, 99, 99)
		if now := fmt.Sprint(second); now != before {
			t.Errorf("%s changes to %s with another result", before, now)
		}
		if again := fmt.Sprint(x.calls()); again != before {
			t.Errorf("%s instead of %s", again, before)
		}
		if !slices.Equal(x.g.Edges, l) || !slices.Equal(x.g.Edges[6:20], make([]api.Edge, 14)) || !slices.Equal(x.s[:20], append(slices.Clone(script), make(api.Script, 16)...)) {
			t.Errorf("the arguments are now %v and %v", x.g.Edges[:20], x.s[:20])
		}
	}
}
