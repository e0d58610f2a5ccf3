package orientation_test

import (
	"math/rand"
	"slices"
	"testing"

	"sandpile/api"
	"sandpile/orientation"
	"sandpile/tree"
)

// Tests of Equivalent (P14.2).

// cycles returns the sets of single edges that are cycles: two ends come to each vertex, and they are connected.
func cycles(g api.Graph) [][]int {
	of := ends(g)
	var l [][]int
	for mask := 1; mask < 1<<len(of); mask++ {
		set := bits(mask)
		at := map[int]int{}
		for _, i := range set {
			at[of[i][0]]++
			at[of[i][1]]++
		}
		circle := len(at) == len(set)
		for _, n := range at {
			circle = circle && n == 2
		}
		// All vertices of a circle are near its first one behind as many steps as there are single edges.
		near := map[int]bool{of[set[0]][0]: true}
		for range set {
			for _, i := range set {
				if near[of[i][0]] || near[of[i][1]] {
					near[of[i][0]], near[of[i][1]] = true, true
				}
			}
		}
		if circle && len(near) == len(set) {
			l = append(l, set)
		}
	}
	return l
}

// isRound tells whether a cycle is directed: just one of its single edges leads to each of its vertices.
func (x sample) isRound(cycle []int) bool {
	to := map[int]bool{}
	arrows := x.arrows()
	for _, i := range cycle {
		to[arrows[i][1]] = true
	}
	return len(to) == len(cycle)
}

// number returns a number for each orientation.
func number(o []bool) int {
	n := 0
	for _, forward := range o {
		n *= 2
		if forward {
			n++
		}
	}
	return n
}

// classes returns a number for each orientation, by its own number, which those share that become each other by steps.
func classes(g api.Graph) []int {
	of := ends(g)
	round := cycles(g)
	l := slices.Repeat([]int{-1}, 1<<len(of))
	for n, start := range listed(len(of)) {
		if l[n] >= 0 {
			continue
		}
		l[n] = n
		for work := [][]bool{start}; len(work) > 0; work = work[1:] {
			x := sample{g, work[0]}
			var steps [][]int
			for mask := range 1 << g.N {
				if x.directed(mask) != 0 {
					steps = append(steps, slices.DeleteFunc(all(len(of)), func(i int) bool { return mask>>of[i][0]&1 == mask>>of[i][1]&1 }))
				}
			}
			for _, cycle := range round {
				if x.isRound(cycle) {
					steps = append(steps, cycle)
				}
			}
			for _, step := range steps {
				if next := turned(x.o, step); l[number(next)] < 0 {
					l[number(next)] = n
					work = append(work, next)
				}
			}
		}
	}
	return l
}

func TestEquivalent(t *testing.T) {
	for _, g := range small() {
		size := len(ends(g))
		class := classes(g)
		for _, a := range listed(size) {
			for _, b := range listed(size) {
				want := class[number(a)] == class[number(b)]
				if size == 7 && (number(a)+number(b))%5 > 0 {
					continue
				}
				if is, e := orientation.Equivalent(g, a, b); is != want || e != api.OK {
					t.Errorf("%v and %v are equivalent in %v: %t beside the error %d, want %t", a, b, g, is, e, want)
				}
			}
		}
	}
}

// TestEquivalentOfTwelve compares orientations of graphs with 12 single edges.
func TestEquivalentOfTwelve(t *testing.T) {
	r := rand.New(rand.NewSource(56))
	for _, g := range []api.Graph{
		edges(5, append(complete(4).Edges, edge(3, 4, 4), edge(4, 4, 2))...), edges(4, edge(0, 1, 3), edge(0, 3, 1), edge(1, 2, 3), edge(2, 3, 3), edge(3, 3, 2)), edges(6, edge(0, 1, 3), edge(1, 2, 3), edge(3, 4, 2), edge(3, 5, 2), edge(4, 5, 2)), edges(3, edge(0, 0, 5), edge(0, 1, 7)), edges(2, edge(0, 1, 12)), edges(1, edge(0, 0, 12)),
	} {
		class := classes(g)
		l := listed(12)
		for range 60 {
			a, b := l[r.Intn(len(l))], l[r.Intn(len(l))]
			if r.Intn(3) == 0 { // one that is equivalent
				first := class[number(a)]
				for b = a; class[number(b)] != first || slices.Equal(a, b); {
					b = l[r.Intn(len(l))]
				}
			}
			want := class[number(a)] == class[number(b)]
			if is, e := orientation.Equivalent(g, a, b); is != want || e != api.OK {
				t.Errorf("%v and %v are equivalent in %v: %t beside the error %d, want %t", a, b, g, is, e, want)
			}
		}
	}
}

// TestClasses counts the classes of a connected graph: they are as many as its spanning trees.
func TestClasses(t *testing.T) {
	for _, g := range []api.Graph{triangle(), circle(5), complete(4), edges(2, edge(0, 1, 5)), edges(2, edge(0, 0, 2), edge(0, 1, 3)), edges(3, edge(0, 1, 2), edge(0, 2, 1), edge(1, 2, 2)), edges(1), edges(1, edge(0, 0, 3)), edges(5, edge(0, 1, 2), edge(1, 2, 1), edge(2, 3, 2), edge(2, 4, 1), edge(3, 4, 1))} {
		var first [][]bool
		for _, o := range must[[][]bool](t)(orientation.All(g)) {
			if !slices.ContainsFunc(first, func(x []bool) bool { return must[bool](t)(orientation.Equivalent(g, x, o)) }) {
				first = append(first, o)
			}
		}
		if n := must[int](t)(tree.Count(g)); len(first) != n {
			t.Errorf("%v has %d classes of orientations, and %d trees", g, len(first), n)
		}
	}
}

func TestEquivalentByHand(t *testing.T) {
	way, long := make([]bool, 11), make([]bool, 12)
	for i := range 11 {
		way[i] = true
	}
	path, ring := edges(12), circle(12)
	for v := range 11 {
		path.Edges = append(path.Edges, edge(v, v+1, 1))
	}
	around := slices.Repeat([]bool{true}, 12)
	around[1] = false // 0-11 leads to 0
	for _, x := range []struct {
		g    api.Graph
		a, b []bool
		want bool
		e    api.Errno
	}{
		{triangle(), []bool{true, false, true}, []bool{false, true, false}, true, api.OK}, {triangle(), []bool{true, true, true}, []bool{false, false, true}, true, api.OK}, {triangle(), []bool{true, true, true}, []bool{true, false, true}, false, api.OK}, {triangle(), []bool{true, true, true}, []bool{true, true, true}, true, api.OK},
		// Without single edges, and with loops alone, all are equivalent; on a tree, too.
		{edges(1), nil, nil, true, api.OK}, {edges(12), nil, []bool{}, true, api.OK}, {edges(1, edge(0, 0, 1)), []bool{true}, []bool{false}, true, api.OK}, {edges(2, edge(0, 0, 2), edge(1, 1, 1)), []bool{true, false, true}, []bool{false, true, true}, true, api.OK}, {path, way, make([]bool, 11), true, api.OK},
		{edges(2, edge(0, 1, 2)), []bool{true, true}, []bool{false, false}, true, api.OK}, {edges(2, edge(0, 1, 2)), []bool{true, false}, []bool{false, true}, true, api.OK}, {edges(2, edge(0, 1, 2)), []bool{true, true}, []bool{true, false}, false, api.OK},
		// Graphs that are not connected.
		{edges(4, edge(0, 1, 1), edge(2, 3, 1)), []bool{true, true}, []bool{true, false}, true, api.OK}, {edges(4, edge(0, 1, 2), edge(2, 3, 2)), []bool{true, false, true, true}, []bool{true, true, true, true}, false, api.OK}, {edges(4, edge(0, 1, 2), edge(2, 3, 2)), []bool{true, false, true, true}, []bool{false, true, false, false}, true, api.OK},
		// A cycle through twelve vertices: one that leads around is equivalent only to the other one.
		{ring, around, turned(around, all(12)), true, api.OK}, {ring, around, long, false, api.OK}, {ring, long, turned(long, []int{0}), false, api.OK}, {ring, long, turned(long, []int{0, 1}), true, api.OK},
		// 13 single edges are too many, but wrong lengths come first.
		{edges(2, edge(0, 1, 13)), make([]bool, 13), make([]bool, 13), false, api.ErrLimit}, {edges(1, edge(0, 0, 13)), make([]bool, 13), make([]bool, 13), false, api.ErrLimit}, {edges(2, edge(0, 1, 13)), make([]bool, 13), make([]bool, 12), false, api.ErrShape}, {edges(2, edge(0, 1, 13)), make([]bool, 12), make([]bool, 13), false, api.ErrShape}, {edges(2, edge(0, 1, 12)), make([]bool, 13), make([]bool, 13), false, api.ErrShape}, {full(12, 50), make([]bool, 3900), make([]bool, 3900), false, api.ErrLimit}, {full(12, 50), make([]bool, 3900), make([]bool, 3899), false, api.ErrShape},
		{edges(2, edge(0, 1, 12)), long, slices.Repeat([]bool{true}, 12), true, api.OK}, {edges(2, edge(0, 1, 12)), long, turned(long, []int{5}), false, api.OK}, {edges(2, edge(0, 1, 12)), turned(long, []int{11}), turned(long, []int{5}), true, api.OK}, {edges(1, edge(0, 0, 12)), long, turned(long, []int{0, 5, 11}), true, api.OK},
	} {
		if is, e := orientation.Equivalent(x.g, x.a, x.b); is != x.want || e != x.e {
			t.Errorf("Equivalent of %.300v: %t beside the error %d", x, is, e)
		}
	}
}
