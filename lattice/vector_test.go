package lattice_test

import (
	"math"
	"math/rand"
	"slices"
	"testing"

	"sandpile/api"
	"sandpile/lattice"
)

// Tests of P16.1.

// TestGraphErrors calls all functions with graphs that are not in normal form, or not connected: these errors come before that of any other argument.
func TestGraphErrors(t *testing.T) {
	named := []string{"Boundary", "Coboundary", "Cycles", "Cuts", "Kind", "Split"}
	lists := [][]int{nil, {0}, {0, 0}, {0, 0, 0}, {api.MaxChips + 1, 0, 0}, {math.MinInt}, make([]int, 5000)}
	for _, x := range wrong() {
		for _, l := range lists {
			got := arguments{g: x.g, x: l, f: l}.calls()
			if len(got.e) != 9 {
				t.Fatalf("%d functions are called", len(got.e))
			}
			for _, name := range named {
				if e := got.e[name]; e != x.e || !got.isZero(name) {
					t.Errorf("%s of %.200v has the error %d, want %d", name, x.g, e, x.e)
				}
			}
		}
	}
	for _, g := range apart() {
		size := len(ends(g))
		for _, l := range append(lists, make([]int, size), make([]int, g.N)) {
			got := arguments{g: g, x: l, f: l}.calls()
			for _, name := range named[2:] {
				if e := got.e[name]; e != api.ErrParted || !got.isZero(name) {
					t.Errorf("%s of %.200v has the error %d", name, g, e)
				}
			}
		}
	}
}

// TestVectorErrors takes vectors and potentials that are none.
func TestVectorErrors(t *testing.T) {
	const most = api.MaxChips
	for _, x := range []struct {
		l []int
		e api.Errno
	}{
		// Too few and too many ints, whatever they are.
		{nil, api.ErrShape}, {[]int{}, api.ErrShape}, {[]int{0}, api.ErrShape}, {[]int{0, 0}, api.ErrShape}, {[]int{0, 0, 0, 0}, api.ErrShape}, {make([]int, 5000), api.ErrShape}, {[]int{most + 1, 0}, api.ErrShape}, {[]int{0, 0, 0, math.MaxInt}, api.ErrShape},
		// Ints out of their range, also where the result would be in its range, or out of it.
		{[]int{most + 1, 0, 0}, api.ErrRange}, {[]int{0, most + 1, 0}, api.ErrRange}, {[]int{0, 0, most + 1}, api.ErrRange}, {[]int{-most - 1, 0, 0}, api.ErrRange}, {[]int{0, -most - 1, 0}, api.ErrRange}, {[]int{0, 0, -most - 1}, api.ErrRange}, {[]int{math.MinInt, 0, 0}, api.ErrRange}, {[]int{0, 0, math.MaxInt}, api.ErrRange}, {[]int{most + 1, most + 1, most + 1}, api.ErrRange}, {[]int{most + 1, -most - 1, most + 1}, api.ErrRange}, {[]int{most, most, math.MinInt}, api.ErrRange}, {[]int{most, -most, -most - 1}, api.ErrRange},
	} {
		got := arguments{g: triangle(), x: x.l, f: x.l}.calls()
		for _, name := range []string{"Boundary", "Coboundary", "Kind", "Split"} {
			if e := got.e[name]; e != x.e || !got.isZero(name) {
				t.Errorf("%s of %.100v has the error %d, want %d", name, x.l, e, x.e)
			}
		}
	}
	// A loop, and a vertex without single edges, count, too.
	for _, g := range []api.Graph{edges(1, edge(0, 0, 1)), edges(2, edge(1, 1, 1))} {
		got := arguments{g: g, x: []int{most + 1}, f: slices.Repeat([]int{-most - 1}, g.N)}.calls()
		if got.e["Boundary"] != api.ErrRange || got.e["Coboundary"] != api.ErrRange {
			t.Errorf("%v has the errors %v", g, got.e)
		}
	}
	// Vectors have an int for each single edge, potentials one for each vertex.
	for _, x := range []struct {
		x, f []int
		e    [3]api.Errno
	}{
		{make([]int, 8), make([]int, 4), [3]api.Errno{}}, {make([]int, 4), make([]int, 8), [3]api.Errno{api.ErrShape, api.ErrShape, api.ErrShape}}, {make([]int, 7), make([]int, 3), [3]api.Errno{api.ErrShape, api.ErrShape, api.ErrShape}}, {make([]int, 9), make([]int, 5), [3]api.Errno{api.ErrShape, api.ErrShape, api.ErrShape}},
	} {
		got := arguments{g: looped(), x: x.x, f: x.f}.calls()
		if now := [3]api.Errno{got.e["Boundary"], got.e["Coboundary"], got.e["Kind"]}; now != x.e {
			t.Errorf("%v has the errors %v, want %v", x, now, x.e)
		}
	}
}

func TestBoundary(t *testing.T) {
	r := rand.New(rand.NewSource(67))
	inside := 0
	for _, g := range append(samples(), apart()...) {
		for _, most := range []int{1, 5, 1500, api.MaxChips} {
			x := some(r, len(ends(g)), most)
			want, fault := make(api.Divisor, g.N), api.OK
			for v := range want {
				for e, of := range ends(g) {
					if of[1] == v {
						want[v] += x[e]
					}
					if of[0] == v {
						want[v] -= x[e]
					}
				}
			}
			if slices.Max(want) > api.MaxChips || slices.Min(want) < -api.MaxChips {
				want, fault = nil, api.ErrLarge
			} else {
				inside++
			}
			d, e := lattice.Boundary(g, x)
			agrees(t, "Boundary", []any{g, x}, d, e, want, fault)
		}
	}
	if inside < 700 {
		t.Errorf("only %d boundaries are in their range", inside)
	}
}

func TestBoundaryByHand(t *testing.T) {
	const most = api.MaxChips
	for _, x := range []struct {
		g    api.Graph
		x    []int
		want api.Divisor
		e    api.Errno
	}{
		{triangle(), []int{1, 0, 0}, api.Divisor{-1, 1, 0}, api.OK}, {triangle(), []int{0, 1, 0}, api.Divisor{-1, 0, 1}, api.OK}, {triangle(), []int{0, 0, 1}, api.Divisor{0, -1, 1}, api.OK}, {triangle(), []int{1, -1, 1}, api.Divisor{0, 0, 0}, api.OK}, {triangle(), []int{5, 7, -2}, api.Divisor{-12, 7, 5}, api.OK},
		{looped(), []int{9, 1, 2, 3, 4, 5, 6, 7}, api.Divisor{-6, -1, 2, 5}, api.OK}, {edges(1), nil, api.Divisor{0}, api.OK}, {edges(1, edge(0, 0, 2)), []int{most, most}, api.Divisor{0}, api.OK}, {edges(2), nil, api.Divisor{0, 0}, api.OK}, {edges(4, edge(0, 2, 1), edge(1, 3, 1)), []int{3, 4}, api.Divisor{-3, -4, 3, 4}, api.OK},
		// Results that are just inside and just outside of their range.
		{edges(2, edge(0, 1, 1)), []int{most}, api.Divisor{-most, most}, api.OK}, {edges(2, edge(0, 1, 1)), []int{-most}, api.Divisor{most, -most}, api.OK}, {edges(2, edge(0, 1, 2)), []int{most / 2, most / 2}, api.Divisor{-most, most}, api.OK}, {edges(2, edge(0, 1, 2)), []int{most, 1}, nil, api.ErrLarge}, {edges(2, edge(0, 1, 2)), []int{-1, -most}, nil, api.ErrLarge}, {edges(2, edge(0, 1, 2)), []int{most, -most}, api.Divisor{0, 0}, api.OK}, {edges(2, edge(0, 1, 3)), []int{most, most, -most}, api.Divisor{-most, most}, api.OK}, {edges(2, edge(0, 1, 50)), slices.Repeat([]int{most}, 50), nil, api.ErrLarge},
		// Only one vertex, be it the first or the last one, has too many or too few.
		{star(3, 0), []int{-most, 0}, api.Divisor{most, -most, 0}, api.OK}, {star(3, 0), []int{-most, -1}, nil, api.ErrLarge}, {star(3, 0), []int{1, most}, nil, api.ErrLarge}, {star(3, 2), []int{1, most - 1}, api.Divisor{-1, 1 - most, most}, api.OK}, {star(3, 2), []int{1, most}, nil, api.ErrLarge}, {star(3, 2), []int{-1, -most}, nil, api.ErrLarge}, {star(3, 1), []int{most, -1}, nil, api.ErrLarge}, {star(3, 1), []int{-most, 1}, nil, api.ErrLarge}, {star(3, 1), []int{most, 0}, api.Divisor{-most, most, 0}, api.OK}, {star(3, 1), []int{most, most}, api.Divisor{-most, 0, most}, api.OK},
	} {
		d, e := lattice.Boundary(x.g, x.x)
		agrees(t, "Boundary", x, d, e, x.want, x.e)
	}
}

func TestCoboundary(t *testing.T) {
	r := rand.New(rand.NewSource(68))
	inside := 0
	for _, g := range append(samples(), apart()...) {
		for _, most := range []int{1, 5, api.MaxChips / 2, api.MaxChips/2 + 3, api.MaxChips} {
			f := some(r, g.N, most)
			want, fault := differences(g, f), api.OK
			if slices.ContainsFunc(want, func(n int) bool { return n < -api.MaxChips || n > api.MaxChips }) {
				want, fault = nil, api.ErrLarge
			} else {
				inside++
			}
			x, e := lattice.Coboundary(g, f)
			agrees(t, "Coboundary", []any{g, f}, x, e, want, fault)
		}
	}
	if inside < 1000 {
		t.Errorf("only %d coboundaries are in their range", inside)
	}
}

func TestCoboundaryByHand(t *testing.T) {
	const most = api.MaxChips
	for _, x := range []struct {
		g    api.Graph
		f    []int
		want []int
		e    api.Errno
	}{
		{triangle(), []int{0, 1, 3}, []int{1, 3, 2}, api.OK}, {triangle(), []int{7, 7, 7}, []int{0, 0, 0}, api.OK}, {triangle(), []int{1, 0, 0}, []int{-1, -1, 0}, api.OK}, {looped(), []int{1, 4, 2, 7}, []int{0, 3, 3, 1, -2, 5, 0, 0}, api.OK}, {edges(1), []int{most}, nil, api.OK}, {edges(1, edge(0, 0, 2)), []int{-most}, []int{0, 0}, api.OK}, {edges(2), []int{most, -most}, nil, api.OK}, {edges(4, edge(0, 2, 1), edge(1, 3, 1)), []int{1, 2, 30, 40}, []int{29, 38}, api.OK},
		// Results that are just inside and just outside of their range, at the first and at the last single edge.
		{edges(2, edge(0, 1, 1)), []int{0, most}, []int{most}, api.OK}, {edges(2, edge(0, 1, 1)), []int{0, -most}, []int{-most}, api.OK}, {edges(2, edge(0, 1, 1)), []int{most, 0}, []int{-most}, api.OK}, {edges(2, edge(0, 1, 1)), []int{-1, most}, nil, api.ErrLarge}, {edges(2, edge(0, 1, 1)), []int{most, -1}, nil, api.ErrLarge}, {edges(2, edge(0, 1, 1)), []int{most / 2, -most / 2}, []int{-most}, api.OK}, {edges(2, edge(0, 1, 1)), []int{most/2 + 1, -most / 2}, nil, api.ErrLarge}, {edges(2, edge(0, 1, 1)), []int{most, -most}, nil, api.ErrLarge},
		{triangle(), []int{most, 0, -1}, nil, api.ErrLarge}, {triangle(), []int{0, most, -1}, nil, api.ErrLarge}, {triangle(), []int{-1, most, 0}, nil, api.ErrLarge}, {chain(1, 1), []int{most, 0, -most}, []int{-most, -most}, api.OK}, {chain(1, 1), []int{most, most, most}, []int{0, 0}, api.OK},
	} {
		l, e := lattice.Coboundary(x.g, x.f)
		agrees(t, "Coboundary", x, l, e, x.want, x.e)
	}
}

// TestBases checks what defines the bases: all vectors are in the lattice, and have 1 at their own single edge and 0 at the others in or outside of the tree.
func TestBases(t *testing.T) {
	for _, g := range samples() {
		if len(ends(g)) > 1000 {
			continue
		}
		tree := greedy(g)
		rest := others(g, tree)
		for name, x := range map[string]struct {
			of    func(g api.Graph) ([][]int, api.Errno)
			own   []int
			right func(x []int) bool
		}{
			"Cycles": {lattice.Cycles, rest, func(x []int) bool { return isClosed(g, rats(x)) }},
			"Cuts":   {lattice.Cuts, tree, func(x []int) bool { return isDifference(g, rats(x)) }},
		} {
			l := must[[][]int](t)(x.of(g))
			if len(l) != len(x.own) {
				t.Fatalf("%s of %v are %d vectors, want %d", name, g, len(l), len(x.own))
			}
			for i, v := range l {
				unit := make([]int, len(x.own))
				unit[i] = 1
				if len(v) != len(ends(g)) || !slices.Equal(picked(v, x.own), unit) || !x.right(v) {
					t.Errorf("%s of %v have %v for %d", name, g, v, x.own[i])
				}
			}
		}
	}
}

func TestBasesByHand(t *testing.T) {
	for _, x := range []struct {
		g            api.Graph
		cycles, cuts [][]int
	}{
		{triangle(), [][]int{{1, -1, 1}}, [][]int{{1, 0, -1}, {0, 1, 1}}}, {edges(1), nil, nil}, {edges(1, edge(0, 0, 2)), [][]int{{1, 0}, {0, 1}}, nil}, {edges(2, edge(0, 1, 3)), [][]int{{-1, 1, 0}, {-1, 0, 1}}, [][]int{{1, 1, 1}}}, {crooked(), nil, [][]int{{1, 0, 0, 0}, {0, 1, 0, 0}, {0, 0, 1, 0}, {0, 0, 0, 1}}},
		// The first tree has the single edges 1, 3 and 5.
		{looped(), [][]int{{1, 0, 0, 0, 0, 0, 0, 0}, {0, -1, 1, 0, 0, 0, 0, 0}, {0, 1, 0, -1, 1, 0, 0, 0}, {0, 0, 0, 0, 0, 0, 1, 0}, {0, 0, 0, 0, 0, 0, 0, 1}}, [][]int{{0, 1, 1, 0, -1, 0, 0, 0}, {0, 0, 0, 1, 1, 0, 0, 0}, {0, 0, 0, 0, 0, 1, 0, 0}}},
		// The square 0-3-1-2-0, whose first tree is 0-2, 0-3 and 1-2: the way from 3 to 1 leads over 0 and 2.
		{edges(4, edge(0, 2, 1), edge(0, 3, 1), edge(1, 2, 1), edge(1, 3, 1)), [][]int{{1, -1, -1, 1}}, [][]int{{1, 0, 0, -1}, {0, 1, 0, 1}, {0, 0, 1, 1}}},
	} {
		l, e := lattice.Cycles(x.g)
		agreesLists(t, "Cycles", x.g, l, e, x.cycles)
		l, e = lattice.Cuts(x.g)
		agreesLists(t, "Cuts", x.g, l, e, x.cuts)
	}
}

// TestBasesOfLargest takes the graph with the most single edges.
func TestBasesOfLargest(t *testing.T) {
	g := full(12, 50)
	l, e := lattice.Cycles(g)
	if len(l) != 3889 || e != api.OK {
		t.Fatalf("%d cycles beside the error %d", len(l), e)
	}
	tree := greedy(g)
	for i, n := range others(g, tree) {
		at := []int{n}
		a, b := ends(g)[n][0], ends(g)[n][1]
		for v, f := range tree { // f joins 0 and v + 1
			if a != b && (v+1 == a || v+1 == b) {
				at = append(at, f)
			}
		}
		slices.Sort(at)
		if found := slices.DeleteFunc(slices.Clone(at), func(f int) bool { return l[i][f] == 0 }); !slices.Equal(found, at) || len(l[i]) != 3900 {
			t.Fatalf("the cycle of %d is not 0 at %v only", n, found)
		}
	}
	l, e = lattice.Cuts(g)
	if len(l) != 11 || e != api.OK {
		t.Errorf("%d cuts beside the error %d", len(l), e)
	}
	for i, x := range l {
		f := make([]int, 12)
		f[i+1] = 1
		agrees(t, "Cuts", i, x, api.OK, differences(g, f), api.OK)
	}
}

func TestKind(t *testing.T) {
	r := rand.New(rand.NewSource(69))
	count := map[[2]bool]int{}
	for _, g := range samples() {
		size := len(ends(g))
		cycles := must[[][]int](t)(lattice.Cycles(g))
		vectors := [][]int{make([]int, size), some(r, size, 1), some(r, size, api.MaxChips), differences(g, some(r, g.N, 3)), differences(g, some(r, g.N, api.MaxChips/2)), sum(size, cycles, some(r, len(cycles), 2))}
		for _, x := range vectors[3:] {
			if size > 0 {
				y := slices.Clone(x)
				y[r.Intn(size)]++
				vectors = append(vectors, y)
			}
		}
		for _, x := range vectors {
			cycle, cut, e := lattice.Kind(g, x)
			got, want := [2]bool{cycle, cut}, [2]bool{isClosed(g, rats(x)), isDifference(g, rats(x))}
			count[want]++
			if got != want || e != api.OK {
				t.Errorf("Kind of %.500v on %v: %v beside the error %d, want %v", x, g, got, e, want)
			}
		}
	}
	for _, kind := range [][2]bool{{true, true}, {true, false}, {false, true}, {false, false}} {
		if count[kind] < 100 {
			t.Errorf("only %d vectors are %v", count[kind], kind)
		}
	}
}

func TestKindByHand(t *testing.T) {
	const most = api.MaxChips
	for _, x := range []struct {
		g          api.Graph
		x          []int
		cycle, cut bool
	}{
		{triangle(), []int{0, 0, 0}, true, true}, {triangle(), []int{1, -1, 1}, true, false}, {triangle(), []int{-most, most, -most}, true, false}, {triangle(), []int{1, 3, 2}, false, true}, {triangle(), []int{most, most, 0}, false, true}, {triangle(), []int{1, 0, 0}, false, false}, {triangle(), []int{1, -1, 2}, false, false}, {triangle(), []int{1, 3, 3}, false, false}, {triangle(), []int{1, 2, 3}, false, false},
		{edges(1), nil, true, true}, {edges(1, edge(0, 0, 2)), []int{0, 0}, true, true}, {edges(1, edge(0, 0, 2)), []int{0, -5}, true, false}, {edges(2, edge(0, 1, 2)), []int{4, -4}, true, false}, {edges(2, edge(0, 1, 2)), []int{4, 4}, false, true}, {edges(2, edge(0, 1, 2)), []int{4, 3}, false, false}, {edges(2, edge(0, 1, 2), edge(1, 1, 1)), []int{4, 4, 1}, false, false}, {edges(2, edge(0, 1, 2), edge(1, 1, 1)), []int{4, -4, 1}, true, false},
		// Every vector of a tree is in the cut lattice, also if the numbers of its potential are too large for one of the chapter's functions.
		{chain(1, 1, 1), []int{1, -7, 5}, false, true}, {chain(1, 1, 1, 1, 1), []int{most, most, most, most, most}, false, true}, {chain(1, 1, 1, 1, 1), []int{-most, -most, -most, -most, -most}, false, true}, {crooked(), []int{most, -most, most, -most}, false, true},
	} {
		cycle, cut, e := lattice.Kind(x.g, x.x)
		if cycle != x.cycle || cut != x.cut || e != api.OK {
			t.Errorf("Kind of %v: %v and %v beside the error %d", x, cycle, cut, e)
		}
	}
}
