package tree_test

import (
	"fmt"
	"math"
	"math/rand"
	"slices"
	"testing"

	"sandpile/api"
	"sandpile/contract"
	"sandpile/tree"
)

// Tests of P13.3, and of P1 for package tree.

func TestCyclesAndCutsets(t *testing.T) {
	for _, x := range trees() {
		size := len(ends(x.g))
		if size > 60 {
			continue
		}
		cutset := map[int][]int{}
		for _, f := range x.t {
			cutset[f] = must[[]int](t)(tree.Cutset(x.g, x.t, f))
		}
		for e := range size {
			if slices.Contains(x.t, e) {
				continue
			}
			cycle := must[[]int](t)(tree.Cycle(x.g, x.t, e))
			for _, f := range x.t {
				_, err := tree.Swap(x.g, x.t, f, e)
				on := slices.Contains(cycle, f)
				if on != slices.Contains(cutset[f], e) || on != (err == api.OK) {
					t.Errorf("%v: the cycle of %d is %v, the cutset of %d is %v, swapping them has the error %d", x, e, cycle, f, cutset[f], err)
				}
			}
		}
	}
}

// TestSwapsConnect makes one tree into another one, by swaps that each bring in a single edge of the other one for one that is not in it.
func TestSwapsConnect(t *testing.T) {
	r := rand.New(rand.NewSource(48))
	for _, g := range samples() {
		for range 3 {
			now, other := grown(r, g), grown(r, g)
			for _, e := range other {
				if slices.Contains(now, e) {
					continue
				}
				cycle := must[[]int](t)(tree.Cycle(g, now, e))
				i := slices.IndexFunc(cycle, func(f int) bool { return !slices.Contains(other, f) })
				if i < 0 {
					t.Fatalf("the cycle %v of %d in %v of %v is in %v", cycle, e, now, g, other)
				}
				now = must[[]int](t)(tree.Swap(g, now, cycle[i], e))
			}
			if !slices.Equal(now, other) {
				t.Errorf("%v becomes %v in %v", other, now, g)
			}
		}
	}
}

func TestPathsFollowParents(t *testing.T) {
	for _, x := range trees() {
		of := ends(x.g)
		for root := range x.g.N {
			parents := must[[]int](t)(tree.Parents(x.g, x.t, root))
			for v := range x.g.N {
				at := v
				for _, e := range must[[]int](t)(tree.Path(x.g, x.t, v, root)) {
					if parents[at] != e {
						t.Errorf("%v: the way from %d to %d takes %d at %d, whose parent is %d", x, v, root, e, at, parents[at])
					}
					at = of[e][0] + of[e][1] - at
				}
				if at != root {
					t.Errorf("%v: the way from %d to %d leads to %d", x, v, root, at)
				}
			}
		}
	}
}

// TestWithAndWithout divides all trees into those with a single edge and those without it, which are as many as the trees behind contracting and deleting.
func TestWithAndWithout(t *testing.T) {
	for _, g := range small() {
		l := must[[][]int](t)(tree.All(g))
		for e, x := range ends(g) {
			with, without := 0, 0
			for _, found := range l {
				if slices.Contains(found, e) {
					with++
				} else {
					without++
				}
			}
			deleted, err := tree.Count(must[api.Graph](t)(contract.Delete(g, e)))
			if err != api.OK && err != api.ErrParted {
				t.Errorf("%v without %d has the error %d", g, e, err)
			}
			contracted := 0
			if x[0] != x[1] {
				contracted = must[int](t)(tree.Count(must[api.Graph](t)(contract.Contract(g, e))))
			}
			if with != contracted || without != deleted || with+without != must[int](t)(tree.Count(g)) {
				t.Errorf("%v has %d trees with %d, and %d without it; behind contracting there are %d, and behind deleting %d", g, with, e, without, contracted, deleted)
			}
		}
	}
}

// TestTotal calls every function with all kinds of arguments: a panic fails the test, and beside an error everything is zero.
func TestTotal(t *testing.T) {
	r := rand.New(rand.NewSource(49))
	ints := []int{math.MinInt, -1, 0, 0, 0, 1, 1, 1, 2, 2, 3, 4, 5, 11, 12, 13, 50, 51, math.MaxInt}
	any := func() int { return ints[r.Intn(len(ints))] }
	right := small()
	for range 20000 {
		g := right[r.Intn(len(right))]
		if r.Intn(3) == 0 {
			g = edges(any())
			for range r.Intn(4) {
				g.Edges = append(g.Edges, edge(any(), any(), any()))
			}
		}
		x := arguments{g: g, e: any(), f: any(), v: any(), w: any()}
		for range r.Intn(6) {
			x.t = append(x.t, any())
		}
		if first, err := tree.First(g); err == api.OK && r.Intn(2) == 0 {
			x.t = first
		}
		got := x.calls()
		for name, e := range got.e {
			if e != api.OK && !got.isZero(name) {
				t.Errorf("%s of %v has a result beside the error %d", name, x, e)
			}
		}
	}
}

// TestMemory changes results, and looks at the arguments and at other results.
func TestMemory(t *testing.T) {
	// The arguments have spare capacity, in which nothing may be written either.
	l := looped().Edges
	for e := range 8 {
		for f := range 8 {
			x := arguments{edges(4, append(make([]api.Edge, 0, 20), l...)...), append(make([]int, 0, 20), 1, 3, 5), e, f, e % 4, f % 4}
			first, second := x.calls(), x.calls()
			before := fmt.Sprint(second)
			for _, lists := range first.lists {
				for i, l := range lists {
					rest := fmt.Sprint(lists[i+1:])
					for j := range l {
						l[j] = 99
					}
					_ = append(l, 99, 99, 99)
					if fmt.Sprint(lists[i+1:]) != rest {
						t.Errorf("%v changes with another list", lists)
					}
				}
			}
			if now := fmt.Sprint(second); now != before {
				t.Errorf("%s changes to %s with another result", before, now)
			}
			if again := fmt.Sprint(x.calls()); again != before {
				t.Errorf("%s instead of %s", again, before)
			}
			if !slices.Equal(x.g.Edges, l) || !slices.Equal(x.g.Edges[6:20], make([]api.Edge, 14)) || !slices.Equal(x.t[:20], append([]int{1, 3, 5}, make([]int, 17)...)) {
				t.Errorf("the arguments are now %v and %v", x.g.Edges[:20], x.t[:20])
			}
		}
	}
}
