package contract_test

import (
	"fmt"
	"maps"
	"math"
	"math/rand"
	"slices"
	"testing"

	"sandpile/api"
	"sandpile/connect"
	"sandpile/contract"
	"sandpile/graph"
)

// Tests of P12.3, and of P1 for package contract.

func TestOneLess(t *testing.T) {
	r := rand.New(rand.NewSource(28))
	for _, g := range samples() {
		size := must[int](t)(graph.Size(g))
		genus := must[int](t)(graph.Genus(g))
		connected := must[bool](t)(connect.Connected(g))
		of := must[[][2]int](t)(graph.Ends(g))
		for _, e := range some(r, g, 30) {
			deleted := must[api.Graph](t)(contract.Delete(g, e))
			if n := must[int](t)(graph.Size(deleted)); n != size-1 || deleted.N != g.N {
				t.Errorf("%v without %d is %v", g, e, deleted)
			}
			contracted, err := contract.Contract(g, e)
			if err != api.OK {
				continue
			}
			isLoop := of[e][0] == of[e][1]
			vertices := g.N - 1
			if isLoop {
				vertices = g.N
			}
			if n := must[int](t)(graph.Size(contracted)); n != size-1 || contracted.N != vertices {
				t.Errorf("%v with %d contracted is %v", g, e, contracted)
			}
			if n := must[int](t)(graph.Genus(contracted)); connected && !isLoop && n != genus {
				t.Errorf("%v has the genus %d, with %d contracted %d", g, genus, e, n)
			}
			if !isLoop {
				merged, err := contract.Merge(deleted, of[e][0], of[e][1])
				agrees(t, "Merge", deleted, merged, err, contracted, api.OK)
			}
		}
		for k := 1; k <= api.MaxVertices; k++ {
			h, err := contract.Subdivide(g, k)
			if err != api.OK {
				continue
			}
			if n := must[int](t)(graph.Genus(h)); n != genus {
				t.Errorf("%v has the genus %d, subdivided by %d it has %d", g, genus, k, n)
			}
			if n := must[int](t)(graph.Size(h)); n != k*size {
				t.Errorf("%v has the size %d, subdivided by %d it has %d", g, size, k, n)
			}
		}
	}
}

// TestEndsMove compares the ends behind deleting and contracting with the new numbers.
func TestEndsMove(t *testing.T) {
	r := rand.New(rand.NewSource(29))
	for _, g := range samples() {
		of := must[[][2]int](t)(graph.Ends(g))
		for _, e := range some(r, g, 20) {
			to := must[[]int](t)(contract.Vertices(g, e))
			deleted, contracted, err := contract.Singles(g, e)
			if err != api.OK || deleted[e] != -1 || contracted[e] != -1 {
				t.Fatalf("Singles of %d in %v: %v and %v beside the error %d", e, g, deleted, contracted, err)
			}
			behind := must[[][2]int](t)(graph.Ends(must[api.Graph](t)(contract.Delete(g, e))))
			for i, x := range of {
				if i != e && behind[deleted[i]] != x {
					t.Errorf("%v without %d: the single edge %d is %v", g, e, i, behind[deleted[i]])
				}
			}
			h, err := contract.Contract(g, e)
			if err != api.OK {
				continue
			}
			behind = must[[][2]int](t)(graph.Ends(h))
			for i, x := range of {
				want := [2]int{min(to[x[0]], to[x[1]]), max(to[x[0]], to[x[1]])}
				if i != e && behind[contracted[i]] != want {
					t.Errorf("%v with %d contracted: the single edge %d is %v", g, e, i, behind[contracted[i]])
				}
			}
		}
	}
}

// TestEitherOrder deletes or contracts two single edges, in either order.
func TestEitherOrder(t *testing.T) {
	numbers := func(g api.Graph, e int) [2][]int {
		deleted, contracted, err := contract.Singles(g, e)
		if err != api.OK {
			t.Fatalf("Singles of %d in %v has the error %d", e, g, err)
		}
		return [2][]int{deleted, contracted}
	}
	ways := []func(g api.Graph, e int) (api.Graph, api.Errno){contract.Delete, contract.Contract}
	for _, g := range small() {
		size := len(ends(g))
		for e := range size {
			for f := range e {
				for i, first := range ways {
					for j, second := range ways {
						behindFirst := must[api.Graph](t)(first(g, e))
						behindSecond := must[api.Graph](t)(second(g, f))
						one := must[api.Graph](t)(second(behindFirst, numbers(g, e)[i][f]))
						other := must[api.Graph](t)(first(behindSecond, numbers(g, f)[j][e]))
						if !same(one, other) {
							t.Errorf("%v becomes %v or %v without %d and %d", g, one, other, e, f)
						}
					}
				}
			}
		}
	}
}

func TestDegreesRemain(t *testing.T) {
	sum := func(d api.Divisor) int {
		n := 0
		for _, chips := range d {
			n += chips
		}
		return n
	}
	r := rand.New(rand.NewSource(30))
	for _, g := range samples() {
		d := chips(r, g.N, api.MaxChips/2)
		for _, e := range some(r, g, 20) {
			collected := must[api.Divisor](t)(contract.Collect(g, e, d))
			if sum(collected) != sum(d) {
				t.Errorf("%v is collected as %v over %d of %v", d, collected, e, g)
			}
			if h, err := contract.Contract(g, e); err == api.OK && h.N != len(collected) {
				t.Errorf("%v is a divisor on %v", collected, h)
			}
		}
		for k := 1; k <= api.MaxVertices; k++ {
			spread, err := contract.Spread(g, k, d)
			h, fault := contract.Subdivide(g, k)
			if err != fault || err == api.OK && (sum(spread) != sum(d) || len(spread) != h.N) {
				t.Errorf("%v is spread as %v on %v subdivided by %d", d, spread, g, k)
			}
		}
	}
}

// TestTotal calls every function with all kinds of arguments: a panic fails the test, and beside an error everything is zero.
func TestTotal(t *testing.T) {
	r := rand.New(rand.NewSource(31))
	ints := []int{math.MinInt, -api.MaxChips - 1, -1, 0, 0, 1, 1, 2, 3, 4, 11, 12, 13, 50, 51, api.MaxChips, api.MaxChips + 1, math.MaxInt}
	any := func() int { return ints[r.Intn(len(ints))] }
	right := samples()
	for range 20000 {
		g := right[r.Intn(len(right))]
		if r.Intn(2) == 0 {
			g = edges(any())
			for range r.Intn(4) {
				g.Edges = append(g.Edges, edge(any(), any(), any()))
			}
		}
		x := arguments{g, any(), any(), any(), any(), nil}
		length := r.Intn(5)
		if r.Intn(2) == 0 {
			length = max(0, min(g.N, 13))
		}
		for range length {
			x.d = append(x.d, any())
		}
		got := x.calls()
		for name, e := range got.e {
			if e != api.OK && !got.isZero(name) {
				t.Errorf("%s of %v has a result beside the error %d", name, x, e)
			}
			if g := got.graphs[name]; e == api.OK && g.N > 0 && graph.Check(g) != api.OK {
				t.Errorf("%s of %v is %v, which is not in normal form", name, x, g)
			}
		}
	}
}

// TestMemory changes results, and looks at the arguments and at other results.
func TestMemory(t *testing.T) {
	// The arguments have spare capacity, in which nothing may be written either.
	l := []api.Edge{edge(0, 1, 2), edge(0, 2, 1), edge(1, 1, 1), edge(1, 2, 1)}
	for e := range 5 {
		for k := 1; k <= 2; k++ {
			x := arguments{edges(3, append(make([]api.Edge, 0, 20), l...)...), e, 1, 2, k, append(make(api.Divisor, 0, 20), 4, 5, 6)}
			first, second := x.calls(), x.calls()
			before := fmt.Sprint(second)
			for name, l := range first.lists {
				others := maps.Clone(first.lists)
				delete(others, name)
				rest := fmt.Sprint(others)
				for i := range l {
					l[i] = 99
				}
				_ = append(l, 99, 99)
				if fmt.Sprint(others) != rest {
					t.Errorf("%v changes with %s", others, name)
				}
			}
			for _, g := range first.graphs {
				for i := range g.Edges {
					g.Edges[i] = edge(9, 9, 9)
				}
				_ = append(g.Edges, edge(9, 9, 9))
			}
			if now := fmt.Sprint(second); now != before {
				t.Errorf("%s changes to %s with another result", before, now)
			}
			if again := fmt.Sprint(x.calls()); again != before {
				t.Errorf("%s instead of %s", again, before)
			}
			if !slices.Equal(x.g.Edges, l) || !slices.Equal(x.g.Edges[4:20], make([]api.Edge, 16)) || !slices.Equal(x.d[:20], append(api.Divisor{4, 5, 6}, make(api.Divisor, 17)...)) {
				t.Errorf("the arguments are now %v and %v", x.g.Edges[:20], x.d[:20])
			}
		}
	}
}
