package parallel_test

import (
	"math"
	"math/rand"
	"slices"
	"testing"

	"sandpile/api"
	"sandpile/parallel"
)

// Tests of P20.1, and of the errors that all functions return first.

// TestGraphErrors calls all functions with graphs that are not in normal form, or not connected: this error comes before that of any other argument.
func TestGraphErrors(t *testing.T) {
	for _, x := range wrong() {
		for _, q := range []int{0, 1, -1, 99} {
			for _, d := range []api.Divisor{nil, {0}, make(api.Divisor, x.g.N&15), {most + 1, 0, 0}, {0, -1, 0}, {0, -1}, {5, 5, 5}, {most, most, most}} {
				for _, k := range []int{0, -1, most + 1} {
					got := arguments{x.g, q, d, k, k}.calls()
					if len(got.e) != 7 {
						t.Fatalf("%d functions are called", len(got.e))
					}
					got.expect(t, append(append(withSink(), withoutSink()...), "Certain"), x.g, x.e)
				}
			}
		}
	}
}

// TestErrorsWithSink calls the functions with a sink with arguments that are not right, of which the number of rounds is the last one.
func TestErrorsWithSink(t *testing.T) {
	for _, k := range []int{0, 1, -1, api.MaxEvents + 1} {
		for _, g := range samples() {
			for _, q := range outside(g.N) {
				for _, d := range []api.Divisor{make(api.Divisor, g.N), nil, slices.Repeat(api.Divisor{-1}, g.N), slices.Repeat(api.Divisor{most + 1}, g.N)} {
					arguments{g, q, d, k, 0}.calls().expect(t, withSink(), []any{g, q}, api.ErrRange)
				}
			}
		}
		for e, l := range faults() {
			for _, d := range l {
				arguments{triangle(), 0, d, k, 0}.calls().expect(t, withSink(), d, e)
			}
		}
	}
	for _, g := range samples() {
		for _, k := range []int{-1, -2, api.MaxEvents + 1, api.MaxEvents + 2, math.MinInt, math.MaxInt} {
			for _, d := range []api.Divisor{make(api.Divisor, g.N), slices.Repeat(api.Divisor{most}, g.N)} {
				behind, s, e := parallel.Rounds(g, 0, d, k)
				agrees(t, "Rounds", []any{g, d, k}, behind, e, nil, api.ErrRange)
				agrees(t, "Rounds, fired,", []any{g, d, k}, s, e, nil, api.ErrRange)
			}
		}
	}
}

func TestRounds(t *testing.T) {
	r := rand.New(rand.NewSource(211))
	still, all, large := 0, 0, 0
	for _, g := range samples() {
		for range 12 {
			q := r.Intn(g.N)
			d := some(r, g, q, []int{0, 50, 500}[r.Intn(3)])
			if r.Intn(4) == 0 {
				d[q] = most - r.Intn(60)
			}
			next, once, _ := played(g, q, d, 1)
			want, error := fits(next)
			behind, l, e := parallel.Round(g, q, d)
			agrees(t, "Round", []any{g, q, d}, behind, e, want, error)
			if set := ready(g, q, d); error == api.OK {
				agrees(t, "Round, fired,", []any{g, q, d}, l, e, set, error)
				if len(set) == 0 {
					still++
				}
				if len(set) == g.N-1 && g.N > 1 {
					all++
				}
			} else {
				agrees(t, "Round, fired,", []any{g, q, d}, l, e, nil, error)
				large++
			}
			behind, s, e := parallel.Rounds(g, q, d, 1)
			agreesRounds(t, []any{g, q, d, 1}, behind, s, e, next, once)
			for _, k := range []int{0, 2, 3, 10, 50 + r.Intn(200), api.MaxEvents} {
				next, script, _ := played(g, q, d, k)
				behind, s, e := parallel.Rounds(g, q, d, k)
				agreesRounds(t, []any{g, q, d, k}, behind, s, e, next, script)
			}
		}
	}
	if still < 50 || all < 50 || large < 20 {
		t.Errorf("nothing fires in %d rounds, all vertices but the sink in %d, and %d are too large", still, all, large)
	}
}

// agreesRounds checks what Rounds returns, if it is not too large.
func agreesRounds(t *testing.T, what any, d api.Divisor, s api.Script, e api.Errno, next api.Divisor, script api.Script) {
	t.Helper()
	want, error := fits(next)
	if error != api.OK {
		script = nil
	}
	agrees(t, "Rounds", what, d, e, want, error)
	agrees(t, "Rounds, fired,", what, s, e, script, error)
}

func TestRun(t *testing.T) {
	r := rand.New(rand.NewSource(212))
	still, longest := 0, 0
	for _, g := range samples() {
		for range 12 {
			q := r.Intn(g.N)
			d := some(r, g, q, []int{0, 50, 500}[r.Intn(3)])
			want, script, rounds := played(g, q, d, math.MaxInt)
			agreesRun(t, run{g, q, d, want, script, rounds, api.OK})
			longest = max(longest, rounds)
			if rounds == 0 {
				still++
			}
		}
	}
	if still < 50 || longest < api.MaxEvents {
		t.Errorf("%d runs have no rounds, and the longest one has %d", still, longest)
	}
}

// run is what Run returns, without a divisor for an error.
type run struct {
	g      api.Graph
	q      int
	d      api.Divisor
	want   api.Divisor
	s      api.Script
	rounds int
	e      api.Errno
}

func agreesRun(t *testing.T, x run) {
	t.Helper()
	what := []any{x.g, x.q, x.d}
	d, s, n, e := parallel.Run(x.g, x.q, x.d)
	agrees(t, "Run", what, d, e, x.want, x.e)
	agrees(t, "Run, fired,", what, s, e, x.s, x.e)
	agreesValue(t, "Run, rounds,", what, n, e, x.rounds, x.e)
}

func TestRunByHand(t *testing.T) {
	for _, x := range []run{
		{triangle(), 0, api.Divisor{0, 2, 2}, api.Divisor{2, 1, 1}, api.Script{0, 1, 1}, 1, api.OK}, {triangle(), 0, api.Divisor{0, 2, 1}, api.Divisor{2, 1, 0}, api.Script{0, 1, 1}, 2, api.OK}, {triangle(), 0, api.Divisor{0, 1, 1}, api.Divisor{0, 1, 1}, api.Script{0, 0, 0}, 0, api.OK}, {triangle(), 1, api.Divisor{4, -5, 0}, api.Divisor{1, -2, 0}, api.Script{2, 0, 1}, 3, api.OK}, {edges(1), 0, api.Divisor{9}, api.Divisor{9}, api.Script{0}, 0, api.OK}, {edges(1, edge(0, 0, 3)), 0, api.Divisor{-9}, api.Divisor{-9}, api.Script{0}, 0, api.OK}, {pair(3), 1, api.Divisor{8, 2}, api.Divisor{2, 8}, api.Script{2, 0}, 2, api.OK},
		// As many firings as there may be, in as many rounds or in half of them, and one firing more, whether the sink would have too many chips or not.
		{pair(1), 0, api.Divisor{0, most}, api.Divisor{most, 0}, api.Script{0, most}, most, api.OK}, {fork(), 0, api.Divisor{0, most / 2, most / 2}, api.Divisor{most, 0, 0}, api.Script{0, most / 2, most / 2}, most / 2, api.OK}, {fork(), 0, api.Divisor{0, most - 1, 1}, api.Divisor{most, 0, 0}, api.Script{0, most - 1, 1}, most - 1, api.OK}, {fork(), 0, api.Divisor{0, most, 1}, nil, nil, 0, api.ErrLimit}, {fork(), 0, api.Divisor{-1, most, 1}, nil, nil, 0, api.ErrLimit}, {fork(), 0, api.Divisor{-most, most/2 + 1, most / 2}, nil, nil, 0, api.ErrLimit}, {fork(), 0, api.Divisor{most, most, most}, nil, nil, 0, api.ErrLimit}, {fork(), 0, api.Divisor{most, 1, most}, nil, nil, 0, api.ErrLimit},
		// As many chips at the sink as there may be, and one more.
		{fork(), 0, api.Divisor{most - 2, 1, 1}, api.Divisor{most, 0, 0}, api.Script{0, 1, 1}, 1, api.OK}, {fork(), 0, api.Divisor{most - 1, 1, 1}, nil, nil, 0, api.ErrLarge}, {fork(), 0, api.Divisor{1, most, 0}, nil, nil, 0, api.ErrLarge}, {fork(), 0, api.Divisor{most, 0, 0}, api.Divisor{most, 0, 0}, api.Script{0, 0, 0}, 0, api.OK}, {triangle(), 2, api.Divisor{1, 2, most - 1}, nil, nil, 0, api.ErrLarge}, {triangle(), 2, api.Divisor{1, 2, most - 2}, api.Divisor{0, 1, most}, api.Script{1, 1, 0}, 2, api.OK},
	} {
		agreesRun(t, x)
	}
}

func TestRoundsByHand(t *testing.T) {
	wide := path(3, 50)
	for _, x := range []struct {
		g    api.Graph
		q    int
		d    api.Divisor
		k    int
		want api.Divisor
		s    api.Script
		e    api.Errno
	}{
		{triangle(), 0, api.Divisor{0, 2, 2}, 1, api.Divisor{2, 1, 1}, api.Script{0, 1, 1}, api.OK}, {triangle(), 0, api.Divisor{0, 2, 1}, 1, api.Divisor{1, 0, 2}, api.Script{0, 1, 0}, api.OK}, {triangle(), 0, api.Divisor{0, 2, 1}, 0, api.Divisor{0, 2, 1}, api.Script{0, 0, 0}, api.OK}, {triangle(), 0, api.Divisor{0, 2, 1}, 2, api.Divisor{2, 1, 0}, api.Script{0, 1, 1}, api.OK}, {triangle(), 0, api.Divisor{0, 2, 1}, 3, api.Divisor{2, 1, 0}, api.Script{0, 1, 1}, api.OK}, {triangle(), 0, api.Divisor{0, 2, 1}, 4096, api.Divisor{2, 1, 0}, api.Script{0, 1, 1}, api.OK}, {triangle(), 0, api.Divisor{0, 2, 1}, 4097, nil, nil, api.ErrRange}, {triangle(), 0, api.Divisor{0, 2, 1}, -1, nil, nil, api.ErrRange},
		// More firings are necessary in the end, but not yet.
		{pair(1), 0, api.Divisor{0, most}, 4096, api.Divisor{4096, most - 4096}, api.Script{0, 4096}, api.OK}, {fork(), 0, api.Divisor{0, most, most}, 4096, api.Divisor{8192, most - 4096, most - 4096}, api.Script{0, 4096, 4096}, api.OK}, {full(12, 1), 0, append(api.Divisor{0}, slices.Repeat([]int{most}, 11)...), 4096, append(api.Divisor{11 * 4096}, slices.Repeat([]int{most - 4096}, 11)...), append(api.Script{0}, slices.Repeat([]int{4096}, 11)...), api.OK},
		// As many chips as there may be, and one more, at the sink; it has more with each round.
		{pair(1), 0, api.Divisor{most - 9, most}, 9, api.Divisor{most, most - 9}, api.Script{0, 9}, api.OK}, {pair(1), 0, api.Divisor{most - 9, most}, 10, nil, nil, api.ErrLarge}, {pair(1), 0, api.Divisor{most - 8, most}, 9, nil, nil, api.ErrLarge}, {pair(1), 0, api.Divisor{most, 1}, 1, nil, nil, api.ErrLarge}, {pair(1), 0, api.Divisor{most, 1}, 0, api.Divisor{most, 1}, api.Script{0, 0}, api.OK}, {pair(1), 0, api.Divisor{most, 0}, 4096, api.Divisor{most, 0}, api.Script{0, 0}, api.OK}, {pair(1), 0, api.Divisor{-most, most}, 4096, api.Divisor{4096 - most, most - 4096}, api.Script{0, 4096}, api.OK},
		// As many chips as there may be at other vertices, which send as many as they get, or one or two rounds long.
		{wide, 0, api.Divisor{0, most, most}, 1, api.Divisor{50, most - 50, most}, api.Script{0, 1, 1}, api.OK}, {wide, 0, api.Divisor{0, 0, most}, 1, api.Divisor{0, 50, most - 50}, api.Script{0, 0, 1}, api.OK}, {wide, 0, api.Divisor{0, 100, most}, 2, api.Divisor{50, 100, most - 50}, api.Script{0, 1, 2}, api.OK}, {full(3, 7), 2, api.Divisor{most, most, 0}, 1, api.Divisor{most - 7, most - 7, 14}, api.Script{1, 1, 0}, api.OK}, {full(3, 7), 2, api.Divisor{most, most, most - 14}, 1, api.Divisor{most - 7, most - 7, most}, api.Script{1, 1, 0}, api.OK}, {full(3, 7), 2, api.Divisor{most, most, most - 13}, 1, nil, nil, api.ErrLarge},
	} {
		d, s, e := parallel.Rounds(x.g, x.q, x.d, x.k)
		agrees(t, "Rounds", x, d, e, x.want, x.e)
		agrees(t, "Rounds, fired,", x, s, e, x.s, x.e)
		if x.k != 1 {
			continue
		}
		d, l, e := parallel.Round(x.g, x.q, x.d)
		agrees(t, "Round", x, d, e, x.want, x.e)
		var want []int
		for v, times := range x.s {
			if times > 0 {
				want = append(want, v)
			}
		}
		agrees(t, "Round, fired,", x, l, e, want, x.e)
	}
}
