package contract_test

import (
	"math"
	"math/rand"
	"slices"
	"testing"

	"sandpile/api"
	"sandpile/contract"
)

// Tests of P12.2.

// places returns the new number of each single edge without e: how many come before it.
func places(ends [][2]int, to []int, e int) []int {
	key := func(i int) []int {
		v, w := to[ends[i][0]], to[ends[i][1]]
		return []int{min(v, w), max(v, w), i}
	}
	l := make([]int, len(ends))
	for i := range l {
		for j := range l {
			if j != e && slices.Compare(key(j), key(i)) < 0 {
				l[i]++
			}
		}
	}
	l[e] = -1
	return l
}

func TestSingles(t *testing.T) {
	r := rand.New(rand.NewSource(25))
	for _, g := range samples() {
		of := ends(g)
		if len(of) > 300 {
			continue
		}
		for _, e := range some(r, g, 10) {
			what := arguments{g: g, e: e}
			deleted, contracted, err := contract.Singles(g, e)
			agreesList(t, "Singles", what, deleted, err, places(of, all(g.N), e), api.OK)
			agreesList(t, "Singles", what, contracted, err, places(of, merged(g.N, of[e][0], of[e][1]), e), api.OK)
		}
	}
	for _, x := range byHand() {
		what := arguments{g: x.g, e: x.e}
		deleted, contracted, err := contract.Singles(x.g, x.e)
		agreesList(t, "Singles", what, deleted, err, x.behind, api.OK)
		agreesList(t, "Singles", what, contracted, err, x.behindMerged, api.OK)
	}
}

// TestSinglesOfLargeGraphs looks at all single edges of the greatest graph.
func TestSinglesOfLargeGraphs(t *testing.T) {
	g := full(12, 50)
	of := ends(g)
	for _, e := range []int{0, 49, 50, 1000, 3899} {
		deleted, contracted, err := contract.Singles(g, e)
		if err != api.OK || len(deleted) != 3900 || len(contracted) != 3900 || deleted[e] != -1 || contracted[e] != -1 {
			t.Fatalf("Singles of %d: %v and %v beside the error %d", e, deleted, contracted, err)
		}
		to := merged(12, of[e][0], of[e][1])
		behind := make([][]int, 3899)
		for i, x := range of {
			if i != e {
				behind[contracted[i]] = []int{min(to[x[0]], to[x[1]]), max(to[x[0]], to[x[1]]), i}
			}
			if i < e && deleted[i] != i || i > e && deleted[i] != i-1 {
				t.Errorf("without %d, %d is %d", e, i, deleted[i])
			}
		}
		if !slices.IsSortedFunc(behind, slices.Compare) {
			t.Errorf("%d is contracted, and the single edges are not in order", e)
		}
	}
}

// chips returns a divisor on a graph.
func chips(r *rand.Rand, n, most int) api.Divisor {
	d := make(api.Divisor, n)
	for v := range d {
		d[v] = r.Intn(2*most+1) - most
	}
	return d
}

func TestSpread(t *testing.T) {
	r := rand.New(rand.NewSource(26))
	for _, g := range samples() {
		for k := range 15 {
			d := chips(r, g.N, api.MaxChips)
			h, fault := subdivided(g, k)
			var want api.Divisor
			if fault == api.OK {
				want = append(slices.Clone(d), make(api.Divisor, h.N-g.N)...)
			}
			spread, err := contract.Spread(g, k, d)
			agreesList(t, "Spread", arguments{g: g, k: k, d: d}, spread, err, want, fault)
		}
	}
}

func TestSpreadByHand(t *testing.T) {
	const most = api.MaxChips
	for _, x := range []struct {
		g    api.Graph
		k    int
		d    api.Divisor
		want api.Divisor
		e    api.Errno
	}{
		{triangle(), 1, api.Divisor{1, -2, 3}, api.Divisor{1, -2, 3}, api.OK}, {triangle(), 2, api.Divisor{1, -2, 3}, api.Divisor{1, -2, 3, 0, 0, 0}, api.OK}, {triangle(), 4, api.Divisor{most, -most, 0}, api.Divisor{most, -most, 0, 0, 0, 0, 0, 0, 0, 0, 0, 0}, api.OK}, {edges(1), 12, api.Divisor{5}, api.Divisor{5}, api.OK}, {edges(2, edge(0, 1, 2)), 3, api.Divisor{7, 8}, api.Divisor{7, 8, 0, 0, 0, 0}, api.OK},
		{triangle(), 2, nil, nil, api.ErrShape}, {triangle(), 2, api.Divisor{1, 2}, nil, api.ErrShape}, {triangle(), 2, api.Divisor{1, 2, 3, 4}, nil, api.ErrShape}, {triangle(), 2, make(api.Divisor, 6), nil, api.ErrShape}, {edges(1), 3, api.Divisor{}, nil, api.ErrShape}, {edges(12), 1, make(api.Divisor, 5000), nil, api.ErrShape},
		{triangle(), 2, api.Divisor{0, 0, most + 1}, nil, api.ErrRange}, {triangle(), 2, api.Divisor{-most - 1, 0, 0}, nil, api.ErrRange}, {triangle(), 2, api.Divisor{0, math.MinInt, 0}, nil, api.ErrRange}, {triangle(), 2, api.Divisor{0, math.MaxInt, 0}, nil, api.ErrRange}, {edges(12), 1, api.Divisor{0, 0, 0, 0, 0, 0, 0, 0, 0, 0, 0, most + 1}, nil, api.ErrRange},
		// The order of the errors: k, the vertices, the shape, the range.
		{triangle(), 0, nil, nil, api.ErrRange}, {triangle(), 13, nil, nil, api.ErrRange}, {triangle(), -1, api.Divisor{1}, nil, api.ErrRange}, {triangle(), 5, nil, nil, api.ErrMany}, {triangle(), 12, api.Divisor{0, 0, most + 1}, nil, api.ErrMany}, {triangle(), 4, api.Divisor{most + 1}, nil, api.ErrShape}, {triangle(), 4, api.Divisor{most + 1, 0, 0, 0}, nil, api.ErrShape},
	} {
		spread, err := contract.Spread(x.g, x.k, x.d)
		agreesList(t, "Spread", arguments{g: x.g, k: x.k, d: x.d}, spread, err, x.want, x.e)
	}
}

func TestCollect(t *testing.T) {
	r := rand.New(rand.NewSource(27))
	for _, g := range append(samples(), full(12, 50)) {
		of := ends(g)
		for _, e := range some(r, g, 12) {
			for _, most := range []int{3, api.MaxChips} {
				d := chips(r, g.N, most)
				to := merged(g.N, of[e][0], of[e][1])
				want, fault := make(api.Divisor, 1+slices.Max(to)), api.OK
				for v := range d {
					want[to[v]] += d[v]
				}
				if slices.Max(want) > api.MaxChips || slices.Min(want) < -api.MaxChips {
					want, fault = nil, api.ErrLarge
				}
				collected, err := contract.Collect(g, e, d)
				agreesList(t, "Collect", arguments{g: g, e: e, d: d}, collected, err, want, fault)
			}
		}
	}
}

func TestCollectByHand(t *testing.T) {
	const most = api.MaxChips
	loop := edges(2, edge(0, 0, 1), edge(0, 1, 1))
	for _, x := range []struct {
		g     api.Graph
		e     int
		d     api.Divisor
		want  api.Divisor
		fault api.Errno
	}{
		{triangle(), 0, api.Divisor{1, 2, 3}, api.Divisor{3, 3}, api.OK}, {triangle(), 1, api.Divisor{1, 2, 4}, api.Divisor{5, 2}, api.OK}, {triangle(), 2, api.Divisor{1, 2, -4}, api.Divisor{1, -2}, api.OK}, {loop, 0, api.Divisor{5, 6}, api.Divisor{5, 6}, api.OK}, {loop, 1, api.Divisor{5, 6}, api.Divisor{11}, api.OK},
		// Sums at the limit, and beyond it; nothing is added along a loop.
		{triangle(), 0, api.Divisor{most, 0, most}, api.Divisor{most, most}, api.OK}, {triangle(), 0, api.Divisor{most - 1, 1, 0}, api.Divisor{most, 0}, api.OK}, {triangle(), 0, api.Divisor{most, 1, 0}, nil, api.ErrLarge}, {triangle(), 0, api.Divisor{most, most, 0}, nil, api.ErrLarge}, {triangle(), 0, api.Divisor{-most, 0, -most}, api.Divisor{-most, -most}, api.OK}, {triangle(), 0, api.Divisor{-most, -1, 0}, nil, api.ErrLarge}, {triangle(), 2, api.Divisor{0, -most, -most}, nil, api.ErrLarge}, {triangle(), 1, api.Divisor{most, 7, -most}, api.Divisor{0, 7}, api.OK}, {loop, 0, api.Divisor{most, most}, api.Divisor{most, most}, api.OK}, {loop, 0, api.Divisor{-most, -most}, api.Divisor{-most, -most}, api.OK},
		// Contracting would be too much, but the divisor is small.
		{full(2, 50), 50, api.Divisor{1, 2}, api.Divisor{3}, api.OK},
		{triangle(), 0, nil, nil, api.ErrShape}, {triangle(), 0, api.Divisor{1, 2}, nil, api.ErrShape}, {triangle(), 0, api.Divisor{1, 2, 3, 4}, nil, api.ErrShape}, {loop, 0, api.Divisor{1}, nil, api.ErrShape},
		{triangle(), 0, api.Divisor{0, 0, most + 1}, nil, api.ErrRange}, {triangle(), 0, api.Divisor{0, -most - 1, 0}, nil, api.ErrRange}, {triangle(), 0, api.Divisor{math.MaxInt, math.MaxInt, 0}, nil, api.ErrRange}, {triangle(), 0, api.Divisor{math.MinInt, math.MinInt, 0}, nil, api.ErrRange}, {triangle(), 0, api.Divisor{most + 1, -1, 0}, nil, api.ErrRange},
		// The order of the errors: the single edge, the shape, the range, the sum.
		{triangle(), 3, nil, nil, api.ErrRange}, {triangle(), -1, api.Divisor{most, most}, nil, api.ErrRange}, {triangle(), 0, api.Divisor{most, most}, nil, api.ErrShape}, {triangle(), 0, api.Divisor{most + 1, most + 1}, nil, api.ErrShape}, {triangle(), 0, api.Divisor{most, most, most + 1}, nil, api.ErrRange},
	} {
		collected, err := contract.Collect(x.g, x.e, x.d)
		agreesList(t, "Collect", arguments{g: x.g, e: x.e, d: x.d}, collected, err, x.want, x.fault)
	}
}
