package stabilize_test

import (
	"math"
	"math/rand"
	"slices"
	"testing"

	"sandpile/api"
	"sandpile/stabilize"
)

// Tests of P19.1, and of the errors that all functions return first.

// TestGraphErrors calls all functions with graphs that are not in normal form, or not connected: this error comes before that of any other argument.
func TestGraphErrors(t *testing.T) {
	for _, x := range wrong() {
		if x.e == api.OK {
			continue
		}
		for _, q := range []int{0, 1, -1, 99} {
			for _, d := range []api.Divisor{nil, {0}, make(api.Divisor, x.g.N&15), {most + 1, 0, 0}, {0, -1, 0}, {0, -1}, {5, 5, 5}} {
				for _, v := range []int{0, -1, 99} {
					got := arguments{x.g, q, d, v}.calls()
					if len(got.e) != 8 {
						t.Fatalf("%d functions are called", len(got.e))
					}
					got.expect(t, append(withDivisor(), "Maximal"), x.g, x.e)
				}
			}
		}
	}
}

// TestSinkErrors calls all functions with sinks that are no vertices: this error comes before that of the divisor and of another vertex.
func TestSinkErrors(t *testing.T) {
	for _, g := range samples() {
		for _, q := range outside(g.N) {
			for _, d := range []api.Divisor{make(api.Divisor, g.N), nil, make(api.Divisor, g.N+1), slices.Repeat(api.Divisor{-1}, g.N), slices.Repeat(api.Divisor{most + 1}, g.N), slices.Repeat(api.Divisor{999}, g.N)} {
				for _, v := range []int{0, -1} {
					arguments{g, q, d, v}.calls().expect(t, append(withDivisor(), "Maximal"), []any{g, q}, api.ErrRange)
				}
			}
		}
	}
}

// TestDivisorErrors calls the functions with lists that are no configurations.
func TestDivisorErrors(t *testing.T) {
	for _, x := range []struct {
		d api.Divisor
		e api.Errno
	}{
		{nil, api.ErrShape}, {api.Divisor{}, api.ErrShape}, {api.Divisor{1, 1}, api.ErrShape}, {api.Divisor{1, 1, 1, 1}, api.ErrShape}, {make(api.Divisor, 13), api.ErrShape}, {make(api.Divisor, 5000), api.ErrShape},
		// The number of ints comes before what they are.
		{api.Divisor{0, most + 1}, api.ErrShape}, {api.Divisor{0, -1}, api.ErrShape}, {api.Divisor{0, -1, 0, 0}, api.ErrShape},
		{api.Divisor{0, most + 1, 0}, api.ErrRange}, {api.Divisor{0, 0, most + 1}, api.ErrRange}, {api.Divisor{most + 1, 0, 0}, api.ErrRange}, {api.Divisor{-most - 1, 0, 0}, api.ErrRange}, {api.Divisor{0, math.MaxInt, 0}, api.ErrRange}, {api.Divisor{math.MinInt, 0, 0}, api.ErrRange}, {api.Divisor{0, 0, math.MinInt}, api.ErrRange},
		// Debts elsewhere than at the sink.
		{api.Divisor{0, -1, 0}, api.ErrRange}, {api.Divisor{0, 0, -1}, api.ErrRange}, {api.Divisor{0, -most, 0}, api.ErrRange}, {api.Divisor{5, 5, -1}, api.ErrRange}, {api.Divisor{most, -1, most}, api.ErrRange}, {api.Divisor{-1, -1, -1}, api.ErrRange},
		{api.Divisor{0, 0, 0}, api.OK}, {api.Divisor{-1, 0, 0}, api.OK}, {api.Divisor{-most, 0, 1}, api.OK}, {api.Divisor{most, 1, 0}, api.OK},
	} {
		for _, v := range []int{0, 1} {
			arguments{triangle(), 0, x.d, v}.calls().expect(t, withDivisor()[:5], x.d, x.e)
		}
		if x.e == api.OK {
			continue
		}
		// This error comes before that of another vertex.
		for _, v := range []int{0, 1, -1, 3} {
			arguments{triangle(), 0, x.d, v}.calls().expect(t, withDivisor(), x.d, x.e)
		}
	}
}

func TestCheck(t *testing.T) {
	r := rand.New(rand.NewSource(191))
	for _, g := range samples() {
		for q := range g.N {
			for _, top := range []int{0, 5, most} {
				if d := some(r, g, q, top); stabilize.Check(g, q, d) != api.OK {
					t.Errorf("%v on %v with the sink %d is no configuration", d, g, q)
				}
			}
			for v := range g.N {
				for _, k := range []int{-1, -most} {
					d, want := make(api.Divisor, g.N), api.ErrRange
					d[v] = k
					if v == q {
						want = api.OK
					}
					if e := stabilize.Check(g, q, d); e != want {
						t.Errorf("%v on %v with the sink %d: error %d, want %d", d, g, q, e, want)
					}
				}
				if e := stabilize.Check(g, q, plus(make(api.Divisor, g.N), v, most+1)); e != api.ErrRange {
					t.Errorf("%d chips at %d on %v: error %d", most+1, v, g, e)
				}
			}
		}
	}
}

func TestUnstable(t *testing.T) {
	r := rand.New(rand.NewSource(192))
	stable := 0
	for _, g := range samples() {
		for q := range g.N {
			for range 8 {
				d := some(r, g, q, 2000)
				want := unstable(g, q, d)
				l, e := stabilize.Unstable(g, q, d)
				agrees(t, "Unstable", []any{g, q, d}, l, e, want, api.OK)
				isStable, e := stabilize.Stable(g, q, d)
				if isStable != (len(want) == 0) || e != api.OK {
					t.Errorf("%v on %v with the sink %d: stable %v beside the error %d", d, g, q, isStable, e)
				}
				if isStable {
					stable++
				}
			}
			// As many chips as the valence, and one less, at one vertex.
			for v := range g.N {
				for _, less := range []int{0, 1} {
					d, want := make(api.Divisor, g.N), []int{v}
					if d[v] = valence(g, v) - less; v == q || less == 1 {
						want = nil
					}
					l, e := stabilize.Unstable(g, q, d)
					agrees(t, "Unstable", []any{g, q, d}, l, e, want, api.OK)
				}
			}
		}
	}
	if stable < 100 {
		t.Errorf("%d configurations are stable", stable)
	}
}

func TestStabilize(t *testing.T) {
	r := rand.New(rand.NewSource(193))
	still, firings := 0, 0
	for _, g := range samples() {
		for range 12 {
			q := r.Intn(g.N)
			d := some(r, g, q, []int{0, 50, 500}[r.Intn(3)])
			want, moves, _ := toppled(g, q, d, least)
			script := count(g.N, moves)
			got, s, e := stabilize.Stabilize(g, q, d)
			agrees(t, "Stabilize", []any{g, q, d}, got, e, want, api.OK)
			agrees(t, "Stabilize, script,", []any{g, q, d}, s, e, script, api.OK)
			if firings += len(moves); len(moves) == 0 {
				still++
			}
		}
	}
	if still < 50 || firings < 50000 {
		t.Errorf("%d configurations are stable already, and there are %d firings", still, firings)
	}
}

// stabilized is what Stabilize returns, without a divisor for an error.
type stabilized struct {
	g    api.Graph
	q    int
	d    api.Divisor
	want api.Divisor
	s    api.Script
	e    api.Errno
}

func (x stabilized) check(t *testing.T) {
	t.Helper()
	d, s, e := stabilize.Stabilize(x.g, x.q, x.d)
	agrees(t, "Stabilize", []any{x.g, x.q, x.d}, d, e, x.want, x.e)
	agrees(t, "Stabilize, script,", []any{x.g, x.q, x.d}, s, e, x.s, x.e)
}

func TestStabilizeByHand(t *testing.T) {
	for _, x := range []stabilized{
		{triangle(), 0, api.Divisor{0, 2, 1}, api.Divisor{2, 1, 0}, api.Script{0, 1, 1}, api.OK}, {triangle(), 1, api.Divisor{4, 0, 0}, api.Divisor{1, 3, 0}, api.Script{2, 0, 1}, api.OK}, {triangle(), 0, api.Divisor{0, 1, 1}, api.Divisor{0, 1, 1}, api.Script{0, 0, 0}, api.OK}, {triangle(), 0, api.Divisor{most, 0, 1}, api.Divisor{most, 0, 1}, api.Script{0, 0, 0}, api.OK}, {triangle(), 2, api.Divisor{2, 1, -7}, api.Divisor{1, 0, -5}, api.Script{1, 1, 0}, api.OK},
		{edges(1), 0, api.Divisor{0}, api.Divisor{0}, api.Script{0}, api.OK}, {edges(1), 0, api.Divisor{-most}, api.Divisor{-most}, api.Script{0}, api.OK}, {edges(1, edge(0, 0, 50)), 0, api.Divisor{most}, api.Divisor{most}, api.Script{0}, api.OK},
		// Loops do not matter, parallel edges do.
		{looped(), 0, api.Divisor{0, 0, 0, 1}, api.Divisor{0, 0, 1, 0}, api.Script{0, 0, 0, 1}, api.OK}, {looped(), 3, api.Divisor{3, 2, 2, 0}, api.Divisor{2, 1, 2, 2}, api.Script{3, 3, 2, 0}, api.OK}, {pair(3), 0, api.Divisor{0, 3}, api.Divisor{3, 0}, api.Script{0, 1}, api.OK}, {pair(3), 0, api.Divisor{0, 2}, api.Divisor{0, 2}, api.Script{0, 0}, api.OK}, {pair(3), 1, api.Divisor{8, 2}, api.Divisor{2, 8}, api.Script{2, 0}, api.OK},
	} {
		x.check(t)
	}
}

// TestLimits has as many firings as there may be, and more, and as many chips at the sink as there may be, and more.
func TestLimits(t *testing.T) {
	if api.MaxFirings != most {
		t.Fatal("the numbers of this test are meant for as many firings as chips")
	}
	for _, x := range []stabilized{
		{pair(1), 0, api.Divisor{0, most}, api.Divisor{most, 0}, api.Script{0, most}, api.OK}, {pair(1), 1, api.Divisor{most, 0}, api.Divisor{0, most}, api.Script{most, 0}, api.OK}, {pair(1), 0, api.Divisor{-most, most}, api.Divisor{0, 0}, api.Script{0, most}, api.OK}, {fork(), 0, api.Divisor{0, most - 1, 1}, api.Divisor{most, 0, 0}, api.Script{0, most - 1, 1}, api.OK}, {fork(), 0, api.Divisor{-1, 1, most - 1}, api.Divisor{most - 1, 0, 0}, api.Script{0, 1, most - 1}, api.OK},
		// One firing more than there may be, whether the sink would have too many chips or not.
		{fork(), 0, api.Divisor{0, most, 1}, nil, nil, api.ErrLimit}, {fork(), 0, api.Divisor{-1, most, 1}, nil, nil, api.ErrLimit}, {fork(), 0, api.Divisor{-most, 1, most}, nil, nil, api.ErrLimit}, {fork(), 0, api.Divisor{most, most, 1}, nil, nil, api.ErrLimit}, {fork(), 0, api.Divisor{most, most, most}, nil, nil, api.ErrLimit}, {path(12, 1), 0, append(make(api.Divisor, 11), most), nil, nil, api.ErrLimit},
		// One chip more than the sink may have, with few firings and with as many as there may be.
		{fork(), 0, api.Divisor{1, most, 0}, nil, nil, api.ErrLarge}, {fork(), 0, api.Divisor{2, most - 1, 0}, nil, nil, api.ErrLarge}, {fork(), 0, api.Divisor{most, 1, 0}, nil, nil, api.ErrLarge}, {fork(), 0, api.Divisor{most - 1, 1, 0}, api.Divisor{most, 0, 0}, api.Script{0, 1, 0}, api.OK}, {fork(), 0, api.Divisor{most - 1, 1, 1}, nil, nil, api.ErrLarge}, {fork(), 0, api.Divisor{most, 0, 0}, api.Divisor{most, 0, 0}, api.Script{0, 0, 0}, api.OK}, {triangle(), 2, api.Divisor{1, 2, most}, nil, nil, api.ErrLarge}, {triangle(), 2, api.Divisor{1, 2, most - 2}, api.Divisor{0, 1, most}, api.Script{1, 1, 0}, api.OK}, {triangle(), 2, api.Divisor{1, 2, most - 1}, nil, nil, api.ErrLarge}, {pair(50), 0, api.Divisor{most - 50, 99}, api.Divisor{most, 49}, api.Script{0, 1}, api.OK}, {pair(50), 0, api.Divisor{most - 49, 99}, nil, nil, api.ErrLarge},
	} {
		x.check(t)
	}
}

// TestManyChips lets vertices have more chips than there may be for a while.
func TestManyChips(t *testing.T) {
	g, d := path(3, 50), api.Divisor{-most, most, most}
	want, moves, _ := toppled(g, 0, d, least)
	stabilized{g, 0, d, want, count(3, moves), api.OK}.check(t)
	if len(moves) < 100000 || want[0] < most-200 {
		t.Errorf("%d moves lead to %v", len(moves), want)
	}
	g, d = full(12, 50), slices.Repeat(api.Divisor{12000}, 12)
	want, moves, _ = toppled(g, 5, d, least)
	stabilized{g, 5, d, want, count(12, moves), api.OK}.check(t)
}
