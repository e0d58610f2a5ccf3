package orientation_test

import (
	"math"
	"math/rand"
	"slices"
	"testing"

	"sandpile/api"
	"sandpile/orientation"
)

// Tests of P14.2 but for Equivalent.

// order takes the least vertex to which no single edge leads from vertices that are not taken, as long as there is one.
func (x sample) order() []int {
	var taken []int
	for {
		next := slices.IndexFunc(all(x.g.N), func(v int) bool {
			return !slices.Contains(taken, v) && !slices.ContainsFunc(x.arrows(), func(a [2]int) bool { return a[1] == v && !slices.Contains(taken, a[0]) })
		})
		if next < 0 {
			return taken
		}
		taken = append(taken, next)
	}
}

// hasCycle tells whether single edges lead from a vertex back to it, by the closure of a relation.
func (x sample) hasCycle() bool {
	leads := map[[2]int]bool{}
	for _, a := range x.arrows() {
		leads[a] = true
	}
	for m := range x.g.N {
		for a := range x.g.N {
			for b := range x.g.N {
				if leads[[2]int{a, m}] && leads[[2]int{m, b}] {
					leads[[2]int{a, b}] = true
				}
			}
		}
	}
	return slices.ContainsFunc(all(x.g.N), func(v int) bool { return leads[[2]int{v, v}] })
}

func TestAcyclic(t *testing.T) {
	for _, x := range samples() {
		if len(x.o) > 1000 {
			continue
		}
		acyclic := !x.hasCycle()
		var want []int
		if acyclic {
			want = x.order()
		}
		is, l, e := orientation.Acyclic(x.g, x.o)
		agrees(t, "Acyclic", x, l, e, want, api.OK)
		if is != acyclic {
			t.Errorf("%v is acyclic: %t", x, is)
		}
	}
}

func TestAcyclicByHand(t *testing.T) {
	for _, x := range []struct {
		g     api.Graph
		o     []bool
		order []int // none for orientations that are not acyclic
	}{
		{triangle(), []bool{true, true, true}, []int{0, 1, 2}}, {triangle(), []bool{true, true, false}, []int{0, 2, 1}}, {triangle(), []bool{false, false, false}, []int{2, 1, 0}}, {triangle(), []bool{true, false, true}, nil}, {triangle(), []bool{false, true, false}, nil},
		// Several orders are possible.
		{edges(1), nil, []int{0}}, {edges(4), nil, []int{0, 1, 2, 3}}, {edges(4, edge(0, 3, 1), edge(1, 2, 1)), []bool{false, false}, []int{2, 1, 3, 0}}, {edges(4, edge(0, 3, 1), edge(1, 2, 1)), []bool{false, true}, []int{1, 2, 3, 0}}, {edges(4, edge(0, 2, 1)), []bool{false}, []int{1, 2, 0, 3}}, {circle(4), []bool{true, true, true, false}, []int{0, 1, 3, 2}}, {circle(4), []bool{false, false, true, false}, []int{1, 3, 0, 2}},
		// 2 is free behind 0, and comes before 3 and 4.
		{edges(5, edge(0, 2, 1), edge(1, 4, 1)), []bool{true, false}, []int{0, 2, 3, 4, 1}},
		// With loops nothing is acyclic.
		{edges(1, edge(0, 0, 1)), []bool{true}, nil}, {edges(1, edge(0, 0, 1)), []bool{false}, nil}, {edges(3, edge(0, 1, 1), edge(2, 2, 1)), []bool{true, true}, nil}, {edges(2, edge(0, 1, 1), edge(1, 1, 1)), []bool{true, false}, nil},
		{edges(2, edge(0, 1, 3)), []bool{true, true, true}, []int{0, 1}}, {edges(2, edge(0, 1, 3)), []bool{false, false, false}, []int{1, 0}}, {edges(2, edge(0, 1, 3)), []bool{true, false, true}, nil}, {edges(2, edge(0, 1, 2)), []bool{false, true}, nil},
		// A cycle that is not at the first vertex.
		{edges(4, edge(0, 1, 1), edge(1, 2, 1), edge(1, 3, 1), edge(2, 3, 1)), []bool{true, true, false, true}, nil}, {edges(4, edge(0, 1, 1), edge(1, 2, 1), edge(1, 3, 1), edge(2, 3, 1)), []bool{true, true, true, true}, []int{0, 1, 2, 3}},
	} {
		is, l, e := orientation.Acyclic(x.g, x.o)
		agrees(t, "Acyclic", x, l, e, x.order, api.OK)
		if is != (len(x.order) > 0) {
			t.Errorf("%v is acyclic: %t", x, is)
		}
	}
}

func TestUnique(t *testing.T) {
	for _, g := range small() {
		for q := range g.N {
			var want [][]bool
			for _, o := range listed(len(ends(g))) {
				x := sample{g, o}
				led := map[int]bool{}
				for _, a := range x.arrows() {
					led[a[1]] = true
				}
				if !x.hasCycle() && len(led) == g.N-1 && !led[q] {
					want = append(want, o)
				}
			}
			l, e := orientation.Unique(g, q)
			agreesLists(t, "Unique", []any{g, q}, l, e, want, api.OK)
		}
	}
}

func TestUniqueByHand(t *testing.T) {
	for _, x := range []struct {
		g    api.Graph
		q    int
		want [][]bool
	}{
		{triangle(), 0, [][]bool{{true, true, false}, {true, true, true}}}, {triangle(), 1, [][]bool{{false, false, true}, {false, true, true}}}, {triangle(), 2, [][]bool{{false, false, false}, {true, false, false}}}, {edges(1), 0, [][]bool{nil}}, {edges(1, edge(0, 0, 1)), 0, nil}, {edges(2, edge(0, 1, 3)), 0, [][]bool{{true, true, true}}}, {edges(2, edge(0, 1, 3)), 1, [][]bool{{false, false, false}}}, {edges(2), 0, nil}, {edges(12), 11, nil}, {edges(3, edge(0, 1, 1), edge(1, 1, 1), edge(1, 2, 1)), 0, nil},
		{edges(4, edge(0, 3, 1), edge(1, 3, 1), edge(2, 3, 1)), 1, [][]bool{{false, true, false}}}, {edges(4, edge(0, 1, 1), edge(2, 3, 1)), 0, nil},
	} {
		l, e := orientation.Unique(x.g, x.q)
		agreesLists(t, "Unique", x, l, e, x.want, api.OK)
	}
	// As many for each vertex: 3! for four vertices that are all joined, 4! for five, and 5 for a cycle through six vertices.
	for _, x := range []struct {
		g    api.Graph
		want int
	}{{complete(4), 6}, {complete(5), 24}, {circle(6), 5}} {
		for q := range x.g.N {
			if l, e := orientation.Unique(x.g, q); len(l) != x.want || e != api.OK {
				t.Errorf("Unique of %d in %v: %d beside the error %d, want %d", q, x.g, len(l), e, x.want)
			}
		}
	}
}

func TestUniqueErrors(t *testing.T) {
	for _, g := range append(small(), full(12, 50), edges(2, edge(0, 1, 15))) {
		for _, q := range []int{-1, g.N, g.N + 1, math.MinInt, math.MaxInt} {
			l, e := orientation.Unique(g, q)
			agreesLists(t, "Unique", []any{g, q}, l, e, nil, api.ErrRange)
		}
	}
	// Exactly MaxFound orientations, and more of them, also if none of them is acyclic.
	l, e := orientation.Unique(edges(2, edge(0, 1, 14)), 1)
	agreesLists(t, "Unique", "14 single edges", l, e, [][]bool{make([]bool, 14)}, api.OK)
	l, e = orientation.Unique(edges(1, edge(0, 0, 14)), 0)
	agreesLists(t, "Unique", "14 loops", l, e, nil, api.OK)
	for _, g := range []api.Graph{edges(2, edge(0, 1, 15)), edges(1, edge(0, 0, 15)), edges(12, edge(0, 1, 50), edge(1, 2, 14)), full(12, 50)} {
		for q := range g.N {
			l, e := orientation.Unique(g, q)
			agreesLists(t, "Unique", []any{g, q}, l, e, nil, api.ErrLimit)
		}
	}
}

// directed returns 1 or -1 for directed sets of vertices, which are given by their bits, and 0 for others.
func (x sample) directed(set int) int {
	var ways []int
	for _, a := range x.arrows() {
		if way := set>>a[0]&1 - set>>a[1]&1; way != 0 {
			ways = append(ways, way)
		}
	}
	slices.Sort(ways)
	if ways = slices.Compact(ways); len(ways) == 1 {
		return ways[0]
	}
	return 0
}

func TestDirected(t *testing.T) {
	r := rand.New(rand.NewSource(54))
	for _, x := range samples() {
		if len(x.o) > 1000 {
			continue
		}
		masks := []int{0, 1<<x.g.N - 1, r.Intn(1 << x.g.N), r.Intn(1 << x.g.N), 1 << r.Intn(x.g.N)}
		if x.g.N < 5 {
			masks = append([]int{0}, all(1<<x.g.N)...)
		}
		// The first vertices of an order are likely to be directed.
		first := 0
		for _, v := range x.order() {
			first |= 1 << v
			masks = append(masks, first)
		}
		for _, mask := range masks {
			if way, e := orientation.Directed(x.g, x.o, bits(mask)); way != x.directed(mask) || e != api.OK {
				t.Errorf("Directed of %v in %v: %d beside the error %d, want %d", bits(mask), x, way, e, x.directed(mask))
			}
		}
	}
}

func TestDirectedByHand(t *testing.T) {
	for _, x := range []struct {
		g    api.Graph
		o    []bool
		set  []int
		want int
		e    api.Errno
	}{
		{triangle(), []bool{true, true, true}, []int{0}, 1, api.OK}, {triangle(), []bool{true, true, true}, []int{0, 1}, 1, api.OK}, {triangle(), []bool{true, true, true}, []int{2}, -1, api.OK}, {triangle(), []bool{true, true, true}, []int{1, 2}, -1, api.OK}, {triangle(), []bool{true, true, true}, []int{1}, 0, api.OK}, {triangle(), []bool{true, true, true}, []int{0, 2}, 0, api.OK}, {triangle(), []bool{true, true, false}, []int{0, 1}, 0, api.OK}, {triangle(), []bool{true, false, true}, []int{0}, 0, api.OK},
		// The empty set, all vertices, and other sets with an empty cut.
		{triangle(), []bool{true, true, true}, nil, 0, api.OK}, {triangle(), []bool{true, true, true}, []int{}, 0, api.OK}, {triangle(), []bool{true, true, true}, []int{0, 1, 2}, 0, api.OK}, {edges(1, edge(0, 0, 2)), []bool{true, false}, []int{0}, 0, api.OK}, {edges(3, edge(0, 1, 1)), []bool{true}, []int{0, 1}, 0, api.OK}, {edges(3, edge(0, 1, 1)), []bool{true}, []int{2}, 0, api.OK}, {edges(3), nil, []int{1}, 0, api.OK}, {edges(3, edge(0, 0, 1), edge(0, 1, 1)), []bool{true, false}, []int{0, 1}, 0, api.OK},
		// Parallel edges, loops, and several components.
		{edges(2, edge(0, 1, 2)), []bool{false, false}, []int{0}, -1, api.OK}, {edges(2, edge(0, 1, 2)), []bool{false, true}, []int{0}, 0, api.OK}, {edges(2, edge(0, 0, 2), edge(0, 1, 1), edge(1, 1, 1)), []bool{true, false, true, false}, []int{0}, 1, api.OK}, {edges(4, edge(0, 1, 1), edge(2, 3, 1)), []bool{true, true}, []int{0, 2}, 1, api.OK}, {edges(4, edge(0, 1, 1), edge(2, 3, 1)), []bool{true, true}, []int{0, 3}, 0, api.OK}, {edges(4, edge(0, 1, 1), edge(2, 3, 1)), []bool{true, true}, []int{0, 1, 3}, -1, api.OK},
		// Lists that are no sets of vertices.
		{triangle(), []bool{true, true, true}, []int{3}, 0, api.ErrRange}, {triangle(), []bool{true, true, true}, []int{-1}, 0, api.ErrRange}, {triangle(), []bool{true, true, true}, []int{0, math.MaxInt}, 0, api.ErrRange}, {triangle(), []bool{true, true, true}, []int{0, 0}, 0, api.ErrOrder}, {triangle(), []bool{true, true, true}, []int{1, 0}, 0, api.ErrOrder}, {triangle(), []bool{true, true, true}, []int{1, 0, 3}, 0, api.ErrOrder}, {triangle(), []bool{true, true, true}, []int{3, 1, 0}, 0, api.ErrRange}, {triangle(), []bool{true, true}, []int{1, 0}, 0, api.ErrShape}, {edges(1), nil, make([]int, 5000), 0, api.ErrOrder},
	} {
		if way, e := orientation.Directed(x.g, x.o, x.set); way != x.want || e != x.e {
			t.Errorf("Directed of %.200v: %d beside the error %d", x, way, e)
		}
	}
}

func TestReverse(t *testing.T) {
	r := rand.New(rand.NewSource(55))
	for _, x := range samples() {
		for range 3 {
			set := r.Perm(len(x.o))[:r.Intn(len(x.o)+1)]
			o, e := orientation.Reverse(x.g, x.o, set)
			agrees(t, "Reverse", []any{x, set}, o, e, turned(x.o, set), api.OK)
		}
	}
	for _, x := range []struct {
		o    []bool
		set  []int
		want []bool
	}{
		{[]bool{true, true, true}, []int{0, 1}, []bool{false, false, true}}, {[]bool{true, true, true}, []int{1, 0}, []bool{false, false, true}}, {[]bool{true, false, true}, []int{2, 0, 1}, []bool{false, true, false}}, {[]bool{true, false, true}, nil, []bool{true, false, true}}, {[]bool{true, false, true}, []int{}, []bool{true, false, true}}, {[]bool{false, false, true}, []int{2}, []bool{false, false, false}},
	} {
		o, e := orientation.Reverse(triangle(), x.o, x.set)
		agrees(t, "Reverse", x, o, e, x.want, api.OK)
	}
	o, e := orientation.Reverse(edges(1, edge(0, 0, 2)), []bool{true, true}, []int{1})
	agrees(t, "Reverse", "a loop", o, e, []bool{true, false}, api.OK)
	o, e = orientation.Reverse(edges(1), nil, nil)
	agrees(t, "Reverse", "nothing", o, e, nil, api.OK)
}

func TestReverseErrors(t *testing.T) {
	for _, x := range []struct {
		set []int
		e   api.Errno
	}{
		{[]int{3}, api.ErrRange}, {[]int{-1}, api.ErrRange}, {[]int{0, 1, 2, 3}, api.ErrRange}, {[]int{math.MinInt}, api.ErrRange}, {[]int{0, math.MaxInt}, api.ErrRange}, {[]int{0, 0}, api.ErrTwice}, {[]int{0, 1, 0}, api.ErrTwice}, {[]int{2, 1, 0, 2}, api.ErrTwice}, {make([]int, 5000), api.ErrTwice},
		// The first element with an error counts.
		{[]int{1, 1, 3}, api.ErrTwice}, {[]int{1, 3, 1}, api.ErrRange}, {[]int{3, 1, 1}, api.ErrRange}, {[]int{2, 2, -1}, api.ErrTwice}, {[]int{-1, 2, 2}, api.ErrRange},
	} {
		for _, g := range []api.Graph{triangle(), edges(1, edge(0, 0, 3)), edges(2, edge(0, 1, 3))} {
			o, e := orientation.Reverse(g, []bool{true, false, true}, x.set)
			agrees(t, "Reverse", []any{g, x.set}, o, e, nil, x.e)
		}
	}
	o, e := orientation.Reverse(edges(1), nil, []int{0})
	agrees(t, "Reverse", "nothing", o, e, nil, api.ErrRange)
}
