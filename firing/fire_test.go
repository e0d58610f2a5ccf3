package firing_test

import (
	"math"
	"math/rand"
	"slices"
	"testing"

	"sandpile/api"
	"sandpile/firing"
)

// Tests of P18.1.

// TestGraphErrors calls all functions with graphs that are not in normal form: this error comes before that of any other argument.
func TestGraphErrors(t *testing.T) {
	for _, x := range wrong() {
		for _, l := range [][]int{nil, {0}, {0, 0, 0}, {most + 1, 0, 0}, {most, 0, -most}, {-1, 5}, {math.MaxInt}, make([]int, 12), make([]int, 5000)} {
			for _, v := range []int{0, 1, -1, 99, math.MinInt, math.MaxInt} {
				got := arguments{x.g, l, l, v, l, l}.calls()
				if len(got.e) != 11 {
					t.Fatalf("%d functions are called", len(got.e))
				}
				got.expect(t, append(withDivisor(), "Check", "Change", "Sets", "Count"), x.g, x.e)
			}
		}
	}
}

// fault is a list that is no divisor, and no script, on 3 vertices, and the error.
type fault struct {
	l []int
	e api.Errno
}

func faults() []fault {
	return []fault{
		{nil, api.ErrShape}, {[]int{}, api.ErrShape}, {[]int{0, 0}, api.ErrShape}, {[]int{0, 0, 0, 0}, api.ErrShape}, {[]int{most + 1, 0}, api.ErrShape}, {[]int{0, 0, 0, most + 1}, api.ErrShape}, {make([]int, 13), api.ErrShape}, {make([]int, 5000), api.ErrShape},
		{[]int{most + 1, 0, 0}, api.ErrRange}, {[]int{0, most + 1, 0}, api.ErrRange}, {[]int{0, 0, most + 1}, api.ErrRange}, {[]int{-most - 1, 0, 0}, api.ErrRange}, {[]int{0, 0, -most - 1}, api.ErrRange}, {[]int{math.MaxInt, math.MaxInt, math.MaxInt}, api.ErrRange}, {[]int{math.MinInt, 0, 0}, api.ErrRange}, {[]int{most + 1, most + 1, most + 1}, api.ErrRange},
	}
}

// TestErrorsOfLists calls the functions with divisors and scripts with errors.
func TestErrorsOfLists(t *testing.T) {
	g, right := triangle(), []int{5, 5, 5}
	for _, x := range faults() {
		// The error of the divisor comes before that of the script, the vertex, the set and the moves.
		for _, v := range []int{0, -1, 3} {
			for _, l := range [][]int{right, nil, {most + 1, 0, 0}, {most, -most, 0}} {
				for _, set := range [][]int{{0}, {0, 0}, {1, 0}, {3}, make([]int, 5000)} {
					got := arguments{g, x.l, l, v, set, set}.calls()
					got.expect(t, withDivisor(), []any{x.l, l, v, set}, x.e)
				}
			}
		}
		got := arguments{g, right, x.l, 0, nil, nil}.calls()
		got.expect(t, withScript(), x.l, x.e)
		for _, y := range faults() {
			arguments{g, x.l, y.l, 0, nil, nil}.calls().expect(t, []string{"Apply"}, []any{x.l, y.l}, x.e)
		}
	}
	for _, x := range []api.Graph{edges(1), edges(2), looped(), full(12, 50)} {
		for v := range x.N {
			for _, k := range []int{most + 1, -most - 1} {
				l := make([]int, x.N)
				l[v] = k
				arguments{x, l, make([]int, x.N), 0, nil, nil}.calls().expect(t, withDivisor(), l, api.ErrRange)
				arguments{x, make([]int, x.N), l, 0, nil, nil}.calls().expect(t, withScript(), l, api.ErrRange)
			}
		}
		for _, n := range []int{x.N - 1, x.N + 1} {
			arguments{x, make([]int, n), make([]int, x.N), 0, nil, nil}.calls().expect(t, withDivisor(), n, api.ErrShape)
			arguments{x, make([]int, x.N), make([]int, n), 0, nil, nil}.calls().expect(t, withScript(), n, api.ErrShape)
		}
	}
}

func TestCheck(t *testing.T) {
	r := rand.New(rand.NewSource(74))
	for _, g := range samples() {
		for _, s := range [][]int{make([]int, g.N), some(r, g.N, 5), some(r, g.N, most), slices.Repeat([]int{most}, g.N), slices.Repeat([]int{-most}, g.N)} {
			if e := firing.Check(g, s); e != api.OK {
				t.Errorf("%v has the error %d", s, e)
			}
		}
	}
}

func TestChangeAndApply(t *testing.T) {
	r := rand.New(rand.NewSource(75))
	inside, outside := 0, 0
	for _, g := range samples() {
		for _, top := range []int{1, 5, 2000, most / 8, most} {
			s := some(r, g.N, top)
			want, error := fits(moved(g, make([]int, g.N), s))
			d, e := firing.Change(g, s)
			agrees(t, "Change", []any{g, s}, d, e, want, error)
			for _, from := range [][]int{make([]int, g.N), some(r, g.N, 20), some(r, g.N, most)} {
				want, error := fits(moved(g, from, s))
				if d, e := firing.Apply(g, from, s); error == api.OK {
					agrees(t, "Apply", []any{g, from, s}, d, e, want, api.OK)
					inside++
				} else {
					agrees(t, "Apply", []any{g, from, s}, d, e, nil, error)
					outside++
				}
			}
		}
		for _, n := range []int{0, 1, -7, most, -most} {
			s := slices.Repeat(api.Script{n}, g.N)
			d, e := firing.Change(g, s)
			agrees(t, "Change", []any{g, s}, d, e, make(api.Divisor, g.N), api.OK)
			from := some(r, g.N, most)
			d, e = firing.Apply(g, from, s)
			agrees(t, "Apply", []any{g, from, s}, d, e, from, api.OK)
		}
	}
	if inside < 500 || outside < 500 {
		t.Errorf("%d results are in range, and %d are not", inside, outside)
	}
}

func TestChangeByHand(t *testing.T) {
	pair := edges(2, edge(0, 1, 1))
	for _, x := range []struct {
		g    api.Graph
		s    api.Script
		want api.Divisor
	}{
		{triangle(), api.Script{2, 1, 0}, api.Divisor{-3, 0, 3}}, {triangle(), api.Script{1, 0, 0}, api.Divisor{-2, 1, 1}}, {triangle(), api.Script{0, 0, 0}, api.Divisor{0, 0, 0}}, {triangle(), api.Script{0, -1, 0}, api.Divisor{-1, 2, -1}},
		{looped(), api.Script{1, 0, 0, 0, 0}, api.Divisor{-3, 2, 1, 0, 0}}, {looped(), api.Script{0, 0, 0, 4, most}, api.Divisor{0, 0, 4, -4, 0}}, {edges(1), api.Script{most}, api.Divisor{0}}, {edges(1, edge(0, 0, 50)), api.Script{-most}, api.Divisor{0}}, {edges(2), api.Script{most, -most}, api.Divisor{0, 0}}, {edges(4, edge(0, 2, 2), edge(1, 3, 3)), api.Script{1, 10, 2, 30}, api.Divisor{2, 60, -2, -60}},
		// Just inside and just outside of the range.
		{pair, api.Script{most, 0}, api.Divisor{-most, most}}, {pair, api.Script{0, most}, api.Divisor{most, -most}}, {pair, api.Script{-most, 0}, api.Divisor{most, -most}}, {pair, api.Script{most / 2, -most / 2}, api.Divisor{-most, most}}, {pair, api.Script{most, -1}, nil}, {pair, api.Script{-1, most}, nil}, {pair, api.Script{-most, 1}, nil}, {pair, api.Script{most, -most}, nil}, {pair, api.Script{most/2 + 1, -most / 2}, nil}, {edges(2, edge(0, 1, 50)), api.Script{20971, 0}, api.Divisor{-1048550, 1048550}}, {edges(2, edge(0, 1, 50)), api.Script{0, 20972}, nil}, {edges(2, edge(0, 1, 2)), api.Script{0, most / 2}, api.Divisor{most, -most}}, {edges(2, edge(0, 1, 2)), api.Script{0, most/2 + 1}, nil},
	} {
		d, e := firing.Change(x.g, x.s)
		agreesOrLarge(t, "Change", x, d, e, x.want)
	}
	// Only one vertex, be it the first or the last one, has too many or too few.
	for center := range 5 {
		for _, n := range []int{most / 4, -most / 4} {
			s, want := make(api.Script, 5), slices.Repeat(api.Divisor{n}, 5)
			s[center], want[center] = n, -4*n
			d, e := firing.Change(star(5, center, 1), s)
			agreesOrLarge(t, "Change", s, d, e, want)
			s[center] += n / (most / 4)
			d, e = firing.Change(star(5, center, 1), s)
			agreesOrLarge(t, "Change", s, d, e, nil)
		}
	}
}

func TestApplyByHand(t *testing.T) {
	pair := edges(2, edge(0, 1, 1))
	for _, x := range []struct {
		g    api.Graph
		d    api.Divisor
		s    api.Script
		want api.Divisor
	}{
		{triangle(), api.Divisor{3, 0, 0}, api.Script{2, 1, 0}, api.Divisor{0, 0, 3}}, {triangle(), api.Divisor{3, 0, 0}, api.Script{1, 0, 0}, api.Divisor{1, 1, 1}}, {triangle(), api.Divisor{1, 1, 1}, api.Script{-1, 0, 0}, api.Divisor{3, 0, 0}}, {looped(), api.Divisor{0, 0, 0, 0, 9}, api.Script{1, 2, 0, -1, 5}, api.Divisor{1, -4, 2, 1, 9}}, {edges(1), api.Divisor{-4}, api.Script{7}, api.Divisor{-4}},
		// Only the result counts, whatever the script changes.
		{pair, api.Divisor{most, -most}, api.Script{most, -most}, api.Divisor{-most, most}}, {pair, api.Divisor{most, -most}, api.Script{most, 1 - most}, api.Divisor{1 - most, most - 1}}, {pair, api.Divisor{most - 1, 0}, api.Script{0, 1}, api.Divisor{most, -1}}, {pair, api.Divisor{most, 0}, api.Script{0, 1}, nil}, {pair, api.Divisor{0, most}, api.Script{1, 0}, nil}, {pair, api.Divisor{0, -most}, api.Script{0, 1}, nil}, {pair, api.Divisor{1 - most, 0}, api.Script{1, 0}, api.Divisor{-most, 1}}, {pair, api.Divisor{-most, 0}, api.Script{1, 0}, nil}, {pair, api.Divisor{most, -most + 1}, api.Script{most, -most}, nil}, {pair, api.Divisor{most - 1, -most}, api.Script{most, -most}, nil},
		{edges(2), api.Divisor{most, -most}, api.Script{most, -most}, api.Divisor{most, -most}},
	} {
		d, e := firing.Apply(x.g, x.d, x.s)
		agreesOrLarge(t, "Apply", x, d, e, x.want)
	}
}

func TestFire(t *testing.T) {
	r := rand.New(rand.NewSource(76))
	inside, large := 0, 0
	for _, g := range samples() {
		for _, top := range []int{0, 3, 60, most} {
			d := some(r, g.N, top)
			if top == most {
				for v := range d {
					d[v] = []int{most, -most, most - 1, 1 - most, most - 60, 0}[r.Intn(6)]
				}
			}
			for v := range g.N {
				want, error := fits(moved(g, d, times(g.N, []int{v}, 1)))
				got, e := firing.Fire(g, d, v)
				agrees(t, "Fire", []any{g, d, v}, got, e, want, error)
				want, error = fits(moved(g, d, times(g.N, []int{v}, -1)))
				got, e = firing.Borrow(g, d, v)
				agrees(t, "Borrow", []any{g, d, v}, got, e, want, error)
			}
			for _, set := range sets(r, g.N) {
				want, error := fits(moved(g, d, times(g.N, set, 1)))
				got, e := firing.FireSet(g, d, set)
				agrees(t, "FireSet", []any{g, d, set}, got, e, want, error)
				if error == api.OK {
					inside++
				} else {
					large++
				}
			}
			for _, v := range outside(g.N) {
				arguments{g, d, nil, v, nil, nil}.calls().expect(t, []string{"Fire", "Borrow"}, v, api.ErrRange)
				arguments{g, d, nil, 0, []int{v}, nil}.calls().expect(t, []string{"FireSet"}, v, api.ErrRange)
			}
		}
	}
	if inside < 500 || large < 500 {
		t.Errorf("%d results are in range, and %d are not", inside, large)
	}
}

func TestFireByHand(t *testing.T) {
	pair := edges(2, edge(0, 1, 1))
	for _, x := range []struct {
		g            api.Graph
		d            api.Divisor
		v            int
		fire, borrow api.Divisor
	}{
		{triangle(), api.Divisor{3, 0, 0}, 0, api.Divisor{1, 1, 1}, api.Divisor{5, -1, -1}}, {triangle(), api.Divisor{1, 1, 1}, 0, api.Divisor{-1, 2, 2}, api.Divisor{3, 0, 0}}, {triangle(), api.Divisor{0, 0, 0}, 2, api.Divisor{1, 1, -2}, api.Divisor{-1, -1, 2}},
		// Loops, and a vertex with the valence 0.
		{looped(), api.Divisor{0, 0, 0, 0, 0}, 0, api.Divisor{-3, 2, 1, 0, 0}, api.Divisor{3, -2, -1, 0, 0}}, {looped(), api.Divisor{0, 0, 0, 0, 0}, 3, api.Divisor{0, 0, 1, -1, 0}, api.Divisor{0, 0, -1, 1, 0}}, {looped(), api.Divisor{1, 2, 3, 4, 5}, 4, api.Divisor{1, 2, 3, 4, 5}, api.Divisor{1, 2, 3, 4, 5}}, {edges(1, edge(0, 0, 3)), api.Divisor{most}, 0, api.Divisor{most}, api.Divisor{most}}, {edges(1), api.Divisor{-most}, 0, api.Divisor{-most}, api.Divisor{-most}}, {edges(2), api.Divisor{most, -most}, 1, api.Divisor{most, -most}, api.Divisor{most, -most}},
		{edges(2, edge(0, 1, 50)), api.Divisor{7, 0}, 1, api.Divisor{57, -50}, api.Divisor{-43, 50}},
		// Just inside and just outside of the range.
		{pair, api.Divisor{1 - most, 0}, 0, api.Divisor{-most, 1}, api.Divisor{2 - most, -1}}, {pair, api.Divisor{-most, 0}, 0, nil, api.Divisor{1 - most, -1}}, {pair, api.Divisor{most, 0}, 0, api.Divisor{most - 1, 1}, nil}, {pair, api.Divisor{most - 1, 0}, 0, api.Divisor{most - 2, 1}, api.Divisor{most, -1}}, {pair, api.Divisor{0, most}, 0, nil, api.Divisor{1, most - 1}}, {pair, api.Divisor{0, most - 1}, 0, api.Divisor{-1, most}, api.Divisor{1, most - 2}}, {pair, api.Divisor{0, -most}, 0, api.Divisor{-1, 1 - most}, nil}, {pair, api.Divisor{0, 1 - most}, 0, api.Divisor{-1, 2 - most}, api.Divisor{1, -most}}, {edges(3, edge(0, 1, 3), edge(1, 2, 1)), api.Divisor{0, 0, most}, 1, nil, api.Divisor{-3, 4, most - 1}},
	} {
		d, e := firing.Fire(x.g, x.d, x.v)
		agreesOrLarge(t, "Fire", x, d, e, x.fire)
		d, e = firing.Borrow(x.g, x.d, x.v)
		agreesOrLarge(t, "Borrow", x, d, e, x.borrow)
	}
}

func TestFireSetByHand(t *testing.T) {
	for _, x := range []struct {
		g    api.Graph
		d    api.Divisor
		set  []int
		want api.Divisor
		e    api.Errno
	}{
		{triangle(), api.Divisor{1, 1, 0}, []int{0, 1}, api.Divisor{0, 0, 2}, api.OK}, {triangle(), api.Divisor{0, 0, 0}, []int{0, 2}, api.Divisor{-1, 2, -1}, api.OK}, {triangle(), api.Divisor{4, 5, 6}, nil, api.Divisor{4, 5, 6}, api.OK}, {triangle(), api.Divisor{4, 5, 6}, []int{0, 1, 2}, api.Divisor{4, 5, 6}, api.OK}, {looped(), api.Divisor{0, 0, 0, 0, 0}, []int{0, 2, 4}, api.Divisor{-2, 3, -2, 1, 0}, api.OK},
		// Chips within the set do not count.
		{triangle(), api.Divisor{most, most, -most}, []int{0, 1}, api.Divisor{most - 1, most - 1, 2 - most}, api.OK}, {triangle(), api.Divisor{most, most, most}, []int{0, 1, 2}, api.Divisor{most, most, most}, api.OK}, {triangle(), api.Divisor{0, 0, most}, []int{0, 1}, nil, api.ErrLarge}, {triangle(), api.Divisor{0, 0, most - 1}, []int{0, 1}, nil, api.ErrLarge}, {triangle(), api.Divisor{0, 0, most - 2}, []int{0, 1}, api.Divisor{-1, -1, most}, api.OK}, {triangle(), api.Divisor{-most, 0, 0}, []int{0, 1}, nil, api.ErrLarge}, {triangle(), api.Divisor{1 - most, 0, 0}, []int{0, 1}, api.Divisor{-most, -1, 2}, api.OK}, {triangle(), api.Divisor{0, -most, 0}, []int{0, 1}, nil, api.ErrLarge},
		{triangle(), api.Divisor{1, 1, 1}, []int{-1}, nil, api.ErrRange}, {triangle(), api.Divisor{1, 1, 1}, []int{3}, nil, api.ErrRange}, {triangle(), api.Divisor{1, 1, 1}, []int{0, 3, 1}, nil, api.ErrRange}, {triangle(), api.Divisor{1, 1, 1}, []int{0, 0}, nil, api.ErrOrder}, {triangle(), api.Divisor{1, 1, 1}, []int{1, 0}, nil, api.ErrOrder}, {triangle(), api.Divisor{1, 1, 1}, []int{1, 0, 3}, nil, api.ErrOrder}, {triangle(), api.Divisor{1, 1, 1}, []int{0, 1, 2, 3}, nil, api.ErrRange}, {triangle(), api.Divisor{1, 1, 1}, make([]int, 5000), nil, api.ErrOrder}, {triangle(), api.Divisor{0, 0, most}, []int{1, 0}, nil, api.ErrOrder}, {triangle(), api.Divisor{0, 0, most}, []int{0, 1, 3}, nil, api.ErrRange},
	} {
		d, e := firing.FireSet(x.g, x.d, x.set)
		agrees(t, "FireSet", x, d, e, x.want, x.e)
	}
	// The error of a vertex comes before a result that would be too large.
	arguments{triangle(), api.Divisor{-most, most, most}, nil, 3, nil, nil}.calls().expect(t, []string{"Fire", "Borrow"}, 3, api.ErrRange)
}
