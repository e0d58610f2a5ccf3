package stabilize_test

import (
	"math/rand"
	"slices"
	"testing"

	"sandpile/api"
	"sandpile/stabilize"
)

// Tests of P19.2.

func TestTopple(t *testing.T) {
	r := rand.New(rand.NewSource(194))
	firings, longer := 0, 0
	for _, g := range samples() {
		for range 12 {
			q := r.Intn(g.N)
			d := some(r, g, q, []int{0, 50, 500}[r.Intn(3)])
			_, want, _ := toppled(g, q, d, least)
			error := api.OK
			firings += len(want)
			if len(want) > api.MaxEvents {
				want, error = nil, api.ErrLimit
				longer++
			}
			moves, e := stabilize.Topple(g, q, d)
			agrees(t, "Topple", []any{g, q, d}, moves, e, want, error)
		}
	}
	if firings < 50000 || longer < 5 {
		t.Errorf("there are %d firings, and too many of them %d times", firings, longer)
	}
}

func TestToppleByHand(t *testing.T) {
	ones := func(n int) []int { return slices.Repeat([]int{1}, n) }
	for _, x := range []struct {
		g     api.Graph
		q     int
		d     api.Divisor
		moves []int
		e     api.Errno
	}{
		{triangle(), 0, api.Divisor{0, 2, 1}, []int{1, 2}, api.OK}, {triangle(), 0, api.Divisor{0, 2, 2}, []int{1, 2}, api.OK}, {triangle(), 0, api.Divisor{0, 1, 1}, nil, api.OK}, {edges(1), 0, api.Divisor{most}, nil, api.OK},
		// The least unstable vertex is always the next one, also if it fires again, or if a greater one has waited for longer.
		{triangle(), 2, api.Divisor{4, 2, 0}, []int{0, 0, 1, 1, 0}, api.OK}, {path(4, 1), 0, api.Divisor{0, 1, 2, 1}, []int{2, 1, 3, 2, 3, 3, 2, 1, 3, 2, 3}, api.OK}, {triangle(), 0, api.Divisor{0, 5, 0}, []int{1, 1, 2, 1}, api.OK},
		// As many moves as there may be, and one more.
		{pair(1), 0, api.Divisor{0, 4095}, ones(4095), api.OK}, {pair(1), 0, api.Divisor{0, 4096}, ones(4096), api.OK}, {pair(1), 0, api.Divisor{0, 4097}, nil, api.ErrLimit}, {pair(1), 0, api.Divisor{0, most}, nil, api.ErrLimit}, {fork(), 0, api.Divisor{0, 4095, 1}, append(ones(4095), 2), api.OK}, {fork(), 0, api.Divisor{0, 4096, 1}, nil, api.ErrLimit}, {fork(), 0, api.Divisor{0, most, most}, nil, api.ErrLimit},
		// Too many chips at the sink are no error.
		{pair(1), 0, api.Divisor{most, 3}, ones(3), api.OK}, {pair(1), 0, api.Divisor{most, 4096}, ones(4096), api.OK}, {pair(1), 0, api.Divisor{most, 4097}, nil, api.ErrLimit}, {pair(1), 0, api.Divisor{-most, 2}, ones(2), api.OK},
	} {
		moves, e := stabilize.Topple(x.g, x.q, x.d)
		agrees(t, "Topple", []any{x.g, x.q, x.d}, moves, e, x.moves, x.e)
	}
}

// avalanche is what Avalanche returns, without a divisor for an error.
type avalanche struct {
	g    api.Graph
	q    int
	d    api.Divisor
	v    int
	want api.Divisor
	s    api.Script
	size int
	e    api.Errno
}

func (x avalanche) check(t *testing.T) {
	t.Helper()
	d, s, n, e := stabilize.Avalanche(x.g, x.q, x.d, x.v)
	what := []any{x.g, x.q, x.d, x.v}
	agrees(t, "Avalanche", what, d, e, x.want, x.e)
	agrees(t, "Avalanche, script,", what, s, e, x.s, x.e)
	if n != x.size {
		t.Errorf("Avalanche of %s has the size %d, want %d", short(what), n, x.size)
	}
}

// stable returns a stable configuration, of which many vertices have as many chips as they can have.
func stable(r *rand.Rand, g api.Graph, q int) api.Divisor {
	d := make(api.Divisor, g.N)
	for v := range d {
		if v != q {
			d[v] = max(0, valence(g, v)-1-r.Intn(2)*r.Intn(valence(g, v)))
		}
	}
	d[q] = r.Intn(100) - 50
	return d
}

// TestAvalancheAndLargest also looks for the largest of all avalanches.
func TestAvalancheAndLargest(t *testing.T) {
	r := rand.New(rand.NewSource(195))
	sizes, equal := 0, 0
	for _, g := range samples() {
		for range 6 {
			q := r.Intn(g.N)
			d := stable(r, g, q)
			vertex, largest := 0, 0
			for v := range g.N {
				want, moves, _ := toppled(g, q, plus(d, v, 1), least)
				avalanche{g, q, d, v, want, count(g.N, moves), len(moves), api.OK}.check(t)
				if len(moves) > 0 && len(moves) == largest {
					equal++
				}
				if len(moves) > largest {
					vertex, largest = v, len(moves)
				}
				sizes += len(moves)
			}
			if v, n, e := stabilize.Largest(g, q, d); v != vertex || n != largest || e != api.OK {
				t.Errorf("Largest of %v on %v with the sink %d: %d and %d beside the error %d, want %d and %d", d, g, q, v, n, e, vertex, largest)
			}
			for _, v := range outside(g.N) {
				avalanche{g, q, d, v, nil, nil, 0, api.ErrRange}.check(t)
			}
		}
	}
	if sizes < 5000 || equal < 100 {
		t.Errorf("the avalanches have %d firings, and %d times as many as another one", sizes, equal)
	}
}

func TestAvalancheByHand(t *testing.T) {
	for _, x := range []avalanche{
		{triangle(), 0, api.Divisor{0, 1, 1}, 1, api.Divisor{2, 1, 0}, api.Script{0, 1, 1}, 2, api.OK}, {triangle(), 0, api.Divisor{0, 1, 0}, 1, api.Divisor{1, 0, 1}, api.Script{0, 1, 0}, 1, api.OK}, {triangle(), 0, api.Divisor{0, 1, 0}, 2, api.Divisor{0, 1, 1}, api.Script{0, 0, 0}, 0, api.OK}, {path(4, 1), 0, api.Divisor{0, 1, 1, 0}, 3, api.Divisor{1, 1, 1, 0}, api.Script{0, 1, 2, 3}, 6, api.OK},
		// At the sink.
		{triangle(), 0, api.Divisor{0, 1, 1}, 0, api.Divisor{1, 1, 1}, api.Script{0, 0, 0}, 0, api.OK}, {triangle(), 0, api.Divisor{-most, 1, 1}, 0, api.Divisor{1 - most, 1, 1}, api.Script{0, 0, 0}, 0, api.OK}, {edges(1), 0, api.Divisor{5}, 0, api.Divisor{6}, api.Script{0}, 0, api.OK}, {edges(1), 0, api.Divisor{most}, 0, nil, nil, 0, api.ErrLarge},
		// Where the sink has as many chips as there may be, or nearly.
		{triangle(), 0, api.Divisor{most, 1, 1}, 0, nil, nil, 0, api.ErrLarge}, {triangle(), 0, api.Divisor{most, 0, 0}, 0, nil, nil, 0, api.ErrLarge}, {triangle(), 0, api.Divisor{most - 1, 1, 1}, 0, api.Divisor{most, 1, 1}, api.Script{0, 0, 0}, 0, api.OK}, {triangle(), 0, api.Divisor{most, 1, 0}, 1, nil, nil, 0, api.ErrLarge}, {triangle(), 0, api.Divisor{most, 1, 0}, 2, api.Divisor{most, 1, 1}, api.Script{0, 0, 0}, 0, api.OK}, {triangle(), 0, api.Divisor{most - 1, 1, 0}, 1, api.Divisor{most, 0, 1}, api.Script{0, 1, 0}, 1, api.OK}, {triangle(), 0, api.Divisor{most - 1, 1, 1}, 1, nil, nil, 0, api.ErrLarge}, {triangle(), 0, api.Divisor{most - 2, 1, 1}, 1, api.Divisor{most, 1, 0}, api.Script{0, 1, 1}, 2, api.OK},
		// Configurations that are not stable; a number that is no vertex comes before this, and too many chips come behind it.
		{triangle(), 0, api.Divisor{0, 2, 0}, 1, nil, nil, 0, api.ErrState}, {triangle(), 0, api.Divisor{0, 0, 2}, 0, nil, nil, 0, api.ErrState}, {triangle(), 0, api.Divisor{most, 2, 0}, 0, nil, nil, 0, api.ErrState}, {triangle(), 0, api.Divisor{0, most, most}, 2, nil, nil, 0, api.ErrState}, {triangle(), 0, api.Divisor{0, 2, 0}, 3, nil, nil, 0, api.ErrRange}, {triangle(), 0, api.Divisor{most, 2, 0}, -1, nil, nil, 0, api.ErrRange}, {triangle(), 0, api.Divisor{most, 1, 0}, 3, nil, nil, 0, api.ErrRange},
	} {
		x.check(t)
	}
}

func TestLargestByHand(t *testing.T) {
	for _, x := range []struct {
		g    api.Graph
		q    int
		d    api.Divisor
		v, n int
		e    api.Errno
	}{
		{triangle(), 0, api.Divisor{0, 1, 0}, 1, 1, api.OK}, {triangle(), 0, api.Divisor{0, 0, 1}, 2, 1, api.OK}, {path(4, 1), 0, api.Divisor{0, 1, 1, 0}, 3, 6, api.OK},
		// Several avalanches are equally large.
		{triangle(), 0, api.Divisor{0, 1, 1}, 1, 2, api.OK}, {triangle(), 1, api.Divisor{1, 0, 1}, 0, 2, api.OK}, {fork(), 0, api.Divisor{0, 0, 0}, 1, 1, api.OK}, {fork(), 1, api.Divisor{1, 0, 0}, 2, 3, api.OK},
		// All have the size 0.
		{triangle(), 0, api.Divisor{9, 0, 0}, 0, 0, api.OK}, {triangle(), 2, api.Divisor{0, 0, -9}, 0, 0, api.OK}, {edges(1), 0, api.Divisor{0}, 0, 0, api.OK}, {edges(1), 0, api.Divisor{most}, 0, 0, api.OK}, {full(12, 50), 5, make(api.Divisor, 12), 0, 0, api.OK},
		// The chips at the sink do not matter.
		{triangle(), 0, api.Divisor{most, 1, 1}, 1, 2, api.OK}, {triangle(), 0, api.Divisor{most, 0, 0}, 0, 0, api.OK}, {triangle(), 0, api.Divisor{most, 0, 1}, 2, 1, api.OK}, {triangle(), 0, api.Divisor{-most, 1, 1}, 1, 2, api.OK},
		{triangle(), 0, api.Divisor{0, 2, 0}, 0, 0, api.ErrState}, {triangle(), 0, api.Divisor{most, 2, 0}, 0, 0, api.ErrState}, {triangle(), 0, api.Divisor{0, 0, most}, 0, 0, api.ErrState}, {pair(50), 1, api.Divisor{50, 0}, 0, 0, api.ErrState}, {pair(50), 1, api.Divisor{49, 0}, 0, 1, api.OK},
	} {
		if v, n, e := stabilize.Largest(x.g, x.q, x.d); v != x.v || n != x.n || e != x.e {
			t.Errorf("Largest of %s: %d and %d beside the error %d", short(x), v, n, e)
		}
	}
}

func TestMaximal(t *testing.T) {
	for _, g := range samples() {
		for q := range g.N {
			want := make(api.Divisor, g.N)
			for v := range want {
				if v != q {
					want[v] = valence(g, v) - 1
				}
			}
			d, e := stabilize.Maximal(g, q)
			agrees(t, "Maximal", []any{g, q}, d, e, want, api.OK)
			// One more chip anywhere but at the sink makes a vertex unstable.
			for v := range g.N {
				isStable, e := stabilize.Stable(g, q, plus(d, v, 1))
				if isStable != (v == q) || e != api.OK {
					t.Errorf("%v with one more chip at %d on %v: stable %v beside the error %d", d, v, g, isStable, e)
				}
			}
		}
	}
	for _, x := range []struct {
		g    api.Graph
		q    int
		want api.Divisor
	}{
		{triangle(), 0, api.Divisor{0, 1, 1}}, {edges(1), 0, api.Divisor{0}}, {edges(1, edge(0, 0, 7)), 0, api.Divisor{0}}, {looped(), 3, api.Divisor{2, 2, 2, 0}}, {looped(), 0, api.Divisor{0, 2, 2, 0}}, {pair(50), 1, api.Divisor{49, 0}},
	} {
		d, e := stabilize.Maximal(x.g, x.q)
		agrees(t, "Maximal", []any{x.g, x.q}, d, e, x.want, api.OK)
	}
}
