package laplacian_test

import (
	"math/big"
	"slices"
	"testing"

	"sandpile/api"
	"sandpile/laplacian"
)

// Tests of P15.2.

func TestTrees(t *testing.T) {
	for _, g := range small() {
		n, e := laplacian.Trees(g)
		agrees(t, "Trees", g, n, e, text(big.NewInt(int64(len(listed(g))))), api.OK)
	}
	parted := 0
	for _, g := range large() {
		want := determinant(cut(rows(g), 0, 0))
		n, e := laplacian.Trees(g)
		agrees(t, "Trees", g, n, e, text(want), api.OK)
		if want.Sign() == 0 {
			parted++
		}
	}
	if parted < 5 {
		t.Errorf("only %d graphs are not connected", parted)
	}
}

func TestTreesByHand(t *testing.T) {
	ring := edges(6, edge(0, 1, 1), edge(0, 5, 1), edge(1, 2, 1), edge(2, 3, 1), edge(3, 4, 1), edge(4, 5, 1))
	for _, x := range []struct {
		g    api.Graph
		want api.Int
	}{
		{example(), "5"}, {looped(), "5"}, {ring, "6"}, {star(12, 4), "1"}, {edges(1), "1"}, {edges(1, edge(0, 0, 50)), "1"}, {edges(2, edge(0, 1, 50)), "50"}, {edges(2), "0"}, {edges(12), "0"}, {edges(2, edge(0, 0, 1), edge(1, 1, 1)), "0"}, {edges(4, edge(0, 1, 3), edge(2, 3, 3)), "0"}, {edges(4, edge(0, 1, 1), edge(0, 2, 1), edge(1, 2, 1)), "0"}, {edges(4, edge(1, 2, 1), edge(1, 3, 1), edge(2, 3, 1)), "0"},
		// n^(n-2) trees of complete graphs, and 50^11 times as many.
		{full(2, 1), "1"}, {full(3, 1), "3"}, {full(4, 1), "16"}, {full(5, 1), "125"}, {full(12, 1), "61917364224"}, {full(12, 50), text(new(big.Int).Mul(big.NewInt(61917364224), new(big.Int).Exp(big.NewInt(50), big.NewInt(11), nil)))},
	} {
		n, e := laplacian.Trees(x.g)
		agrees(t, "Trees", x.g, n, e, x.want, api.OK)
	}
}

func TestCofactor(t *testing.T) {
	for _, g := range small() {
		for row := range g.N {
			for col := range g.N {
				want := expanded(cut(rows(g), row, col))
				if (row+col)%2 == 1 {
					want = -want
				}
				n, e := laplacian.Cofactor(g, row, col)
				agrees(t, "Cofactor", []any{g, row, col}, n, e, text(big.NewInt(int64(want))), api.OK)
			}
		}
	}
	for _, g := range large() {
		for _, x := range [][2]int{{0, 0}, {0, g.N - 1}, {g.N - 1, 0}, {g.N / 2, g.N / 3}, {g.N / 2, g.N - 1}} {
			want := determinant(cut(rows(g), x[0], x[1]))
			if (x[0]+x[1])%2 == 1 {
				want.Neg(want)
			}
			n, e := laplacian.Cofactor(g, x[0], x[1])
			agrees(t, "Cofactor", []any{g, x}, n, e, text(want), api.OK)
		}
	}
}

func TestCofactorByHand(t *testing.T) {
	for _, x := range []struct {
		g        api.Graph
		row, col int
		want     api.Int
		e        api.Errno
	}{
		// The minor for 0 and 1 has the rows -1 -2 and -1 3, that for 0 and 2 has -1 3 and -1 -2.
		{example(), 0, 0, "5", api.OK}, {example(), 0, 1, "5", api.OK}, {example(), 0, 2, "5", api.OK}, {example(), 2, 1, "5", api.OK}, {example(), 2, 2, "5", api.OK}, {looped(), 3, 0, "5", api.OK}, {looped(), 2, 0, "5", api.OK}, {edges(1), 0, 0, "1", api.OK}, {edges(2), 0, 1, "0", api.OK}, {edges(2), 1, 0, "0", api.OK}, {edges(2), 1, 1, "0", api.OK}, {edges(2, edge(0, 1, 7)), 0, 1, "7", api.OK}, {edges(2, edge(0, 1, 7)), 1, 0, "7", api.OK}, {edges(3, edge(0, 1, 2)), 1, 2, "0", api.OK}, {edges(3, edge(0, 1, 2)), 2, 2, "0", api.OK},
		{example(), -1, 0, "", api.ErrRange}, {example(), 0, -1, "", api.ErrRange}, {example(), 3, 0, "", api.ErrRange}, {example(), 0, 3, "", api.ErrRange}, {example(), -1, 3, "", api.ErrRange}, {example(), -1, -1, "", api.ErrRange}, {edges(1), 0, 1, "", api.ErrRange}, {edges(1), 1, 0, "", api.ErrRange}, {edges(1), 1, 1, "", api.ErrRange}, {edges(2), 2, 0, "", api.ErrRange},
	} {
		n, e := laplacian.Cofactor(x.g, x.row, x.col)
		agrees(t, "Cofactor", x, n, e, x.want, x.e)
	}
	for _, g := range samples() {
		for _, q := range outside(g.N) {
			n, e := laplacian.Cofactor(g, q, 0)
			agrees(t, "Cofactor", []any{g, q, 0}, n, e, "", api.ErrRange)
			n, e = laplacian.Cofactor(g, g.N-1, q)
			agrees(t, "Cofactor", []any{g, g.N - 1, q}, n, e, "", api.ErrRange)
		}
	}
}

func TestWith(t *testing.T) {
	for _, g := range small() {
		trees := listed(g)
		for e := range ends(g) {
			want := 0
			for _, l := range trees {
				if slices.Contains(l, e) {
					want++
				}
			}
			n, err := laplacian.With(g, e)
			agrees(t, "With", []any{g, e}, n, err, text(big.NewInt(int64(want))), api.OK)
		}
		for _, e := range outside(len(ends(g))) {
			n, err := laplacian.With(g, e)
			agrees(t, "With", []any{g, e}, n, err, "", api.ErrRange)
		}
	}
	for _, g := range large() {
		of := ends(g)
		for e := 0; e < len(of); e += 1 + len(of)/7 {
			n, err := laplacian.With(g, e)
			agrees(t, "With", []any{g, e}, n, err, text(joined(g, of[e])), api.OK)
		}
		for _, e := range outside(len(of)) {
			n, err := laplacian.With(g, e)
			agrees(t, "With", []any{g, e}, n, err, "", api.ErrRange)
		}
	}
}

// joined returns the number of trees with a single edge: those behind merging its ends, which is the determinant of the Laplacian without the rows and columns of both; a loop is in none.
func joined(g api.Graph, of [2]int) *big.Int {
	if of[0] == of[1] {
		return new(big.Int)
	}
	return determinant(cut(cut(rows(g), of[1], of[1]), of[0], of[0]))
}

func TestWithByHand(t *testing.T) {
	for _, x := range []struct {
		g    api.Graph
		e    int
		want api.Int
		err  api.Errno
	}{
		{example(), 0, "3", api.OK}, {example(), 1, "3", api.OK}, {example(), 2, "2", api.OK}, {example(), 3, "2", api.OK}, {example(), 4, "", api.ErrRange}, {example(), -1, "", api.ErrRange},
		// Loops, parallel edges, others, and a bridge.
		{looped(), 0, "0", api.OK}, {looped(), 1, "2", api.OK}, {looped(), 2, "2", api.OK}, {looped(), 3, "3", api.OK}, {looped(), 4, "3", api.OK}, {looped(), 5, "5", api.OK}, {looped(), 6, "0", api.OK}, {looped(), 7, "0", api.OK}, {looped(), 8, "", api.ErrRange},
		{edges(1, edge(0, 0, 2)), 0, "0", api.OK}, {edges(1, edge(0, 0, 2)), 1, "0", api.OK}, {edges(1, edge(0, 0, 2)), 2, "", api.ErrRange}, {edges(1), 0, "", api.ErrRange}, {edges(2, edge(0, 1, 1)), 0, "1", api.OK}, {edges(2, edge(0, 1, 50)), 49, "1", api.OK}, {edges(2, edge(0, 1, 50)), 50, "", api.ErrRange}, {star(12, 3), 10, "1", api.OK}, {star(12, 3), 11, "", api.ErrRange},
		// No tree has a single edge if the graph is not connected.
		{edges(2), 0, "", api.ErrRange}, {edges(3, edge(0, 1, 2)), 0, "0", api.OK}, {edges(3, edge(0, 1, 2)), 2, "", api.ErrRange}, {edges(4, edge(0, 1, 1), edge(2, 3, 1)), 1, "0", api.OK}, {edges(2, edge(0, 0, 1)), 0, "0", api.OK},
	} {
		n, err := laplacian.With(x.g, x.e)
		agrees(t, "With", x, n, err, x.want, x.err)
	}
}
