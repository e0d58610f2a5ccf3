package family_test

import (
	"math"
	"slices"
	"testing"

	"sandpile/api"
	"sandpile/family"
)

// Tests of P11.1.

func TestKinds(t *testing.T) {
	if l := kinds(); !slices.Equal(l, []int{0, 1, 2, 3, 4, 5, 6, 7, 8}) {
		t.Errorf("the kinds are %v", l)
	}
}

func TestSizes(t *testing.T) {
	for kind, want := range []int{1, 1, 1, 1, 1, 1, 2, 2, 3} {
		if n, e := family.Sizes(kind); n != want || e != api.OK {
			t.Errorf("Sizes of %d: %d beside the error %d", kind, n, e)
		}
	}
	for _, kind := range noKinds() {
		if n, e := family.Sizes(kind); n != 0 || e != api.ErrArg {
			t.Errorf("Sizes of %d: %d beside the error %d", kind, n, e)
		}
	}
}

// noKinds returns numbers that are no kinds.
func noKinds() []int { return []int{-1, 9, 10, -9, 255, 256, 1 << 32, math.MinInt, math.MaxInt} }

func TestMake(t *testing.T) {
	for _, x := range right() {
		agreesGraph(t, x, x.graph(), api.OK)
	}
}

func TestMakeByHand(t *testing.T) {
	for _, x := range []struct {
		kind  int
		sizes []int
		want  api.Graph
	}{
		{family.Path, []int{1}, edges(1)}, {family.Path, []int{2}, simple(2, 0, 1)}, {family.Path, []int{4}, simple(4, 0, 1, 1, 2, 2, 3)},
		{family.Path, []int{12}, simple(12, 0, 1, 1, 2, 2, 3, 3, 4, 4, 5, 5, 6, 6, 7, 7, 8, 8, 9, 9, 10, 10, 11)},
		{family.Cycle, []int{1}, simple(1, 0, 0)}, {family.Cycle, []int{2}, edges(2, edge(0, 1, 2))}, {family.Cycle, []int{3}, simple(3, 0, 1, 0, 2, 1, 2)}, {family.Cycle, []int{5}, simple(5, 0, 1, 0, 4, 1, 2, 2, 3, 3, 4)},
		{family.Cycle, []int{12}, simple(12, 0, 1, 0, 11, 1, 2, 2, 3, 3, 4, 4, 5, 5, 6, 6, 7, 7, 8, 8, 9, 9, 10, 10, 11)},
		{family.Star, []int{1}, simple(2, 0, 1)}, {family.Star, []int{3}, simple(4, 0, 1, 0, 2, 0, 3)}, {family.Star, []int{11}, simple(12, 0, 1, 0, 2, 0, 3, 0, 4, 0, 5, 0, 6, 0, 7, 0, 8, 0, 9, 0, 10, 0, 11)},
		{family.Complete, []int{1}, edges(1)}, {family.Complete, []int{2}, simple(2, 0, 1)}, {family.Complete, []int{4}, simple(4, 0, 1, 0, 2, 0, 3, 1, 2, 1, 3, 2, 3)},
		{family.Banana, []int{1}, simple(2, 0, 1)}, {family.Banana, []int{7}, edges(2, edge(0, 1, 7))}, {family.Banana, []int{50}, edges(2, edge(0, 1, 50))},
		{family.Wheel, []int{1}, simple(2, 0, 1, 1, 1)}, {family.Wheel, []int{2}, edges(3, edge(0, 1, 1), edge(0, 2, 1), edge(1, 2, 2))}, {family.Wheel, []int{3}, simple(4, 0, 1, 0, 2, 0, 3, 1, 2, 1, 3, 2, 3)}, {family.Wheel, []int{4}, simple(5, 0, 1, 0, 2, 0, 3, 0, 4, 1, 2, 1, 4, 2, 3, 3, 4)},
		{family.Wheel, []int{11}, simple(12, 0, 1, 0, 2, 0, 3, 0, 4, 0, 5, 0, 6, 0, 7, 0, 8, 0, 9, 0, 10, 0, 11, 1, 2, 1, 11, 2, 3, 3, 4, 4, 5, 5, 6, 6, 7, 7, 8, 8, 9, 9, 10, 10, 11)},
		{family.Bipartite, []int{1, 1}, simple(2, 0, 1)}, {family.Bipartite, []int{1, 3}, simple(4, 0, 1, 0, 2, 0, 3)}, {family.Bipartite, []int{3, 1}, simple(4, 0, 3, 1, 3, 2, 3)}, {family.Bipartite, []int{2, 3}, simple(5, 0, 2, 0, 3, 0, 4, 1, 2, 1, 3, 1, 4)}, {family.Bipartite, []int{3, 2}, simple(5, 0, 3, 0, 4, 1, 3, 1, 4, 2, 3, 2, 4)},
		{family.Grid, []int{1, 1}, edges(1)}, {family.Grid, []int{1, 3}, simple(3, 0, 1, 1, 2)}, {family.Grid, []int{3, 1}, simple(3, 0, 1, 1, 2)}, {family.Grid, []int{2, 3}, simple(6, 0, 1, 0, 3, 1, 2, 1, 4, 2, 5, 3, 4, 4, 5)}, {family.Grid, []int{3, 2}, simple(6, 0, 1, 0, 2, 1, 3, 2, 3, 2, 4, 3, 5, 4, 5)}, {family.Grid, []int{2, 2}, simple(4, 0, 1, 0, 2, 1, 3, 2, 3)},
		{family.Theta, []int{1, 1, 1}, edges(2, edge(0, 1, 3))}, {family.Theta, []int{1, 1, 2}, edges(3, edge(0, 1, 2), edge(0, 2, 1), edge(1, 2, 1))}, {family.Theta, []int{1, 2, 1}, edges(3, edge(0, 1, 2), edge(0, 2, 1), edge(1, 2, 1))}, {family.Theta, []int{3, 1, 1}, edges(4, edge(0, 1, 2), edge(0, 2, 1), edge(1, 3, 1), edge(2, 3, 1))},
		{family.Theta, []int{2, 2, 4}, simple(7, 0, 2, 0, 3, 0, 4, 1, 2, 1, 3, 1, 6, 4, 5, 5, 6)}, {family.Theta, []int{4, 2, 2}, simple(7, 0, 2, 0, 5, 0, 6, 1, 4, 1, 5, 1, 6, 2, 3, 3, 4)}, {family.Theta, []int{3, 1, 2}, simple(5, 0, 1, 0, 2, 0, 4, 1, 3, 1, 4, 2, 3)},
	} {
		agreesGraph(t, member{x.kind, x.sizes}, x.want, api.OK)
	}
}

func TestMakeErrors(t *testing.T) {
	for _, x := range around() {
		if x.fault() != api.OK {
			agreesGraph(t, x, api.Graph{}, x.fault())
		}
	}
	for _, x := range wrong() {
		agreesGraph(t, x.member, api.Graph{}, x.e)
	}
}

// faulty is what is no graph, and the error.
type faulty struct {
	member
	e api.Errno
}

func wrong() []faulty {
	var l []faulty
	add := func(e api.Errno, kind int, sizes ...int) { l = append(l, faulty{member{kind, sizes}, e}) }
	// The kind comes before the sizes.
	for _, kind := range noKinds() {
		for _, s := range [][]int{nil, {}, {1}, {0}, {99}, {2, 2}, {2, 2, 2}, {1, 2, 3, 4}} {
			add(api.ErrArg, kind, s...)
		}
	}
	// The number of sizes comes before their values.
	for _, kind := range kinds() {
		for n := range 6 {
			if n == sizes(kind) {
				continue
			}
			for _, size := range []int{1, 2, 0, -1, 13, 51, math.MinInt, math.MaxInt} {
				add(api.ErrShape, kind, slices.Repeat([]int{size}, n)...)
			}
		}
		l = append(l, faulty{member{kind, nil}, api.ErrShape}, faulty{member{kind, make([]int, 5000)}, api.ErrShape})
	}
	// A size below 1 comes before the number of vertices, wherever it is.
	for _, kind := range kinds() {
		for i := range sizes(kind) {
			for _, low := range []int{0, -1, -50, math.MinInt} {
				for _, other := range []int{1, 2, 13, 51, math.MaxInt} {
					s := slices.Repeat([]int{other}, sizes(kind))
					s[i] = low
					add(api.ErrRange, kind, s...)
				}
			}
		}
	}
	add(api.ErrMany, family.Path, 13)
	add(api.ErrMany, family.Cycle, 13)
	add(api.ErrMany, family.Star, 12)
	add(api.ErrMany, family.Complete, 13)
	add(api.ErrMany, family.Banana, 51)
	add(api.ErrMany, family.Wheel, 12)
	add(api.ErrMany, family.Bipartite, 6, 7)
	add(api.ErrMany, family.Bipartite, 12, 1)
	add(api.ErrMany, family.Bipartite, 1, 12)
	add(api.ErrMany, family.Grid, 1, 13)
	add(api.ErrMany, family.Grid, 13, 1)
	add(api.ErrMany, family.Grid, 5, 3)
	add(api.ErrMany, family.Theta, 12, 1, 1)
	add(api.ErrMany, family.Theta, 1, 12, 1)
	add(api.ErrMany, family.Theta, 1, 1, 12)
	add(api.ErrMany, family.Theta, 5, 5, 4)
	return append(l, huge()...)
}

// huge returns sizes whose sums or products do not fit into an int, or are small numbers there.
func huge() []faulty {
	var l []faulty
	values := []int{1 << 16, 1 << 31, 1 << 32, 1<<32 + 1, 1 << 62, 1<<62 + 1, math.MaxInt / 2, math.MaxInt - 1, math.MaxInt}
	for _, kind := range kinds() {
		for _, a := range values {
			for _, b := range append([]int{1, 2, 3, 4, 5, 12}, values...) {
				for _, s := range [][]int{{a}, {a, b}, {b, a}, {a, a, b}, {a, b, a}, {b, a, a}, {a, b, b}, {b, b, a}} {
					if len(s) == sizes(kind) {
						l = append(l, faulty{member{kind, s}, api.ErrMany})
					}
				}
			}
		}
	}
	return l
}
