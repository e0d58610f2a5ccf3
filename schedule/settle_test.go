package schedule_test

import (
	"math"
	"math/rand"
	"slices"
	"testing"

	"sandpile/api"
	"sandpile/schedule"
)

// Tests of P21.2.

// TestPicks has picks, and lists that are none: too many come before a negative one.
func TestPicks(t *testing.T) {
	zeros := func(n int) []int { return make([]int, n) }
	for _, x := range []struct {
		picks []int
		e     api.Errno
	}{
		{nil, api.ErrEmpty}, {[]int{}, api.ErrEmpty}, {[]int{0}, api.OK}, {[]int{math.MaxInt}, api.OK}, {zeros(4095), api.OK}, {zeros(4096), api.OK}, {zeros(4097), api.ErrMany}, {zeros(9999), api.ErrMany},
		{[]int{-1}, api.ErrRange}, {[]int{math.MinInt}, api.ErrRange}, {[]int{0, 5, -1}, api.ErrRange}, {append(zeros(4095), -1), api.ErrRange}, {append(zeros(4096), -1), api.ErrMany}, {append([]int{-1}, zeros(4096)...), api.ErrMany},
	} {
		for _, d := range []api.Divisor{{0, 0, 0}, {0, 2, 1}} {
			arguments{triangle(), 0, d, nil, x.picks}.calls().expect(t, withPicks(), short(x.picks), x.e)
		}
		arguments{edges(1), 0, api.Divisor{5}, nil, x.picks}.calls().expect(t, withPicks(), short(x.picks), x.e)
		// They come before too many firings, and too many chips.
		if x.e != api.OK {
			arguments{triangle(), 0, api.Divisor{most, most, most}, nil, x.picks}.calls().expect(t, withPicks(), short(x.picks), x.e)
			arguments{triangle(), 0, api.Divisor{most, 2, 2}, nil, x.picks}.calls().expect(t, withPicks(), short(x.picks), x.e)
		}
	}
}

// settling is what Settle returns, without a divisor for an error.
type settling struct {
	arguments
	want api.Divisor
	s    api.Script
	e    api.Errno
}

func (x settling) check(t *testing.T) {
	t.Helper()
	what := []any{x.g, x.q, x.d, x.picks}
	d, s, e := schedule.Settle(x.g, x.q, x.d, x.picks)
	agrees(t, "Settle", what, d, e, x.want, x.e)
	agrees(t, "Settle, fired,", what, s, e, x.s, x.e)
}

// drifting is what Drift returns.
type drifting struct {
	settling
	most int
}

func (x drifting) check(t *testing.T) {
	t.Helper()
	what := []any{x.g, x.q, x.d, x.picks}
	d, s, n, e := schedule.Drift(x.g, x.q, x.d, x.picks)
	agrees(t, "Drift", what, d, e, x.want, x.e)
	agrees(t, "Drift, fired,", what, s, e, x.s, x.e)
	if n != x.most {
		t.Errorf("Drift of %s has %d chips on their way, want %d", short(what), n, x.most)
	}
}

// from returns the arguments without a schedule.
func from(g api.Graph, q int, d api.Divisor, picks ...int) arguments {
	return arguments{g, q, d, nil, picks}
}

func TestSettle(t *testing.T) {
	r := rand.New(rand.NewSource(222))
	again := 0
	for _, g := range samples() {
		for range 4 {
			q := r.Intn(g.N)
			d, picks := some(r, g, q, 100), somePicks(r)
			x := begin(g, q, d)
			if x.settle(picks) > len(picks) {
				again++
			}
			settling{from(g, q, d, picks...), x.d, x.s, api.OK}.check(t)
		}
	}
	if again < 50 {
		t.Errorf("picks begin again %d times", again)
	}
}

// TestDrift compares drifts with a list of all chips that are on their way; the chips that were on their way at once tell which picks were made.
func TestDrift(t *testing.T) {
	r := rand.New(rand.NewSource(223))
	again, different := 0, 0
	for _, g := range samples() {
		for range 8 {
			q := r.Intn(g.N)
			d := some(r, g, q, 60)
			if picksOf(g, q, d) > 20000 {
				continue
			}
			numbers := map[int]bool{}
			for _, picks := range [][]int{{0}, {math.MaxInt}, {1, 0, 2}, somePicks(r), somePicks(r)} {
				x := begin(g, q, d)
				if x.drift(picks) > len(picks) {
					again++
				}
				drifting{settling{from(g, q, d, picks...), x.d, x.s, api.OK}, x.most}.check(t)
				numbers[x.most] = true
			}
			if len(numbers) > 2 {
				different++
			}
		}
	}
	if again < 500 || different < 100 {
		t.Errorf("picks begin again %d times, and %d configurations have more than two numbers of chips", again, different)
	}
}

func TestSettleByHand(t *testing.T) {
	for _, x := range []settling{
		{from(triangle(), 0, api.Divisor{0, 2, 1}, 0), api.Divisor{2, 1, 0}, api.Script{0, 1, 1}, api.OK}, {from(triangle(), 0, api.Divisor{0, 2, 1}, 7, 0, 99), api.Divisor{2, 1, 0}, api.Script{0, 1, 1}, api.OK}, {from(triangle(), 0, api.Divisor{9, 1, 1}, 4), api.Divisor{9, 1, 1}, api.Script{0, 0, 0}, api.OK}, {from(triangle(), 2, api.Divisor{2, 1, -7}, 3), api.Divisor{1, 0, -5}, api.Script{1, 1, 0}, api.OK},
		{from(edges(1), 0, api.Divisor{-most}, 5), api.Divisor{-most}, api.Script{0}, api.OK}, {from(edges(1, edge(0, 0, 50)), 0, api.Divisor{most}, 0), api.Divisor{most}, api.Script{0}, api.OK}, {from(looped(), 3, api.Divisor{3, 2, 2, 0}, 1, 0), api.Divisor{2, 1, 2, 2}, api.Script{3, 3, 2, 0}, api.OK}, {from(pair(3), 1, api.Divisor{8, 2}, 0), api.Divisor{2, 8}, api.Script{2, 0}, api.OK},
	} {
		x.check(t)
		// What drifts gets to the same end.
		d, s, _, e := schedule.Drift(x.g, x.q, x.d, x.picks)
		agrees(t, "Drift", x.arguments, d, e, x.want, x.e)
		agrees(t, "Drift, fired,", x.arguments, s, e, x.s, x.e)
	}
}

func TestDriftByHand(t *testing.T) {
	ok := func(x arguments, want api.Divisor, s api.Script, most int) drifting {
		return drifting{settling{x, want, s, api.OK}, most}
	}
	for _, x := range []drifting{
		ok(from(triangle(), 0, api.Divisor{0, 2, 1}, 0), api.Divisor{2, 1, 0}, api.Script{0, 1, 1}, 2),
		// Nothing is unstable, or only one vertex is there.
		ok(from(triangle(), 0, api.Divisor{9, 1, 1}, 4), api.Divisor{9, 1, 1}, api.Script{0, 0, 0}, 0), ok(from(edges(1, edge(0, 0, 9)), 0, api.Divisor{9}, 4), api.Divisor{9}, api.Script{0}, 0),
		// 1 sends chips to 0 and 2; the second one arrives first, and 2 fires while the other one is still on its way.
		ok(from(triangle(), 0, api.Divisor{0, 2, 1}, 0, 1, 0), api.Divisor{2, 1, 0}, api.Script{0, 1, 1}, 3), ok(from(triangle(), 0, api.Divisor{0, 2, 1}, 0, 0, 0), api.Divisor{2, 1, 0}, api.Script{0, 1, 1}, 2),
		// Both fire at first, or a chip of the one arrives before the other one fires.
		ok(from(fork(1, 1), 0, api.Divisor{0, 1, 1}, 0), api.Divisor{2, 0, 0}, api.Script{0, 1, 1}, 2), ok(from(fork(1, 1), 0, api.Divisor{0, 1, 1}, 1), api.Divisor{2, 0, 0}, api.Script{0, 1, 1}, 1), ok(from(fork(1, 1), 0, api.Divisor{0, 3, 0}, 1, 0), api.Divisor{3, 0, 0}, api.Script{0, 3, 0}, 2),
		// Several chips go to the same vertex: three at once, and four where one is still on its way.
		ok(from(pair(3), 0, api.Divisor{0, 7}, 0), api.Divisor{6, 1}, api.Script{0, 2}, 6), ok(from(pair(3), 0, api.Divisor{0, 7}, 0, 1, 1, 1), api.Divisor{6, 1}, api.Script{0, 2}, 3), ok(from(pair(3), 0, api.Divisor{0, 7}, 0, 1, 1, 0), api.Divisor{6, 1}, api.Script{0, 2}, 4), ok(from(looped(), 3, api.Divisor{0, 3, 0, 0}, 0), api.Divisor{2, 0, 1, 0}, api.Script{0, 1, 0, 0}, 3),
		// Loops send no chips.
		ok(from(looped(), 0, api.Divisor{0, 0, 0, 2}, 1), api.Divisor{0, 0, 2, 0}, api.Script{0, 0, 0, 2}, 1),
	} {
		x.check(t)
	}
}

// TestSettleLimits has as many firings as there may be, and more, and as many chips at the sink as there may be, and more.
func TestSettleLimits(t *testing.T) {
	for _, picks := range [][]int{{0}, {1}, {5, 0, 2}} {
		for _, x := range []settling{
			{from(pair(1), 0, api.Divisor{0, most}), api.Divisor{most, 0}, api.Script{0, most}, api.OK}, {from(fork(1, 1), 0, api.Divisor{0, most - 1, 1}), api.Divisor{most, 0, 0}, api.Script{0, most - 1, 1}, api.OK}, {from(fork(1, 1), 0, api.Divisor{-1, 1, most - 1}), api.Divisor{most - 1, 0, 0}, api.Script{0, 1, most - 1}, api.OK},
			// One firing more than there may be, whether the sink would have too many chips or not.
			{from(fork(1, 1), 0, api.Divisor{0, most, 1}), nil, nil, api.ErrLimit}, {from(fork(1, 1), 0, api.Divisor{-1, most, 1}), nil, nil, api.ErrLimit}, {from(fork(1, 1), 0, api.Divisor{most, most, most}), nil, nil, api.ErrLimit}, {from(path(12, 1), 0, append(make(api.Divisor, 11), most)), nil, nil, api.ErrLimit},
			// One chip more than the sink may have.
			{from(fork(1, 1), 0, api.Divisor{1, most, 0}), nil, nil, api.ErrLarge}, {from(fork(1, 1), 0, api.Divisor{most, 1, 0}), nil, nil, api.ErrLarge}, {from(fork(1, 1), 0, api.Divisor{most - 1, 1, 0}), api.Divisor{most, 0, 0}, api.Script{0, 1, 0}, api.OK}, {from(fork(1, 1), 0, api.Divisor{most - 1, 1, 1}), nil, nil, api.ErrLarge}, {from(fork(1, 1), 0, api.Divisor{most, 0, 0}), api.Divisor{most, 0, 0}, api.Script{0, 0, 0}, api.OK}, {from(triangle(), 2, api.Divisor{1, 2, most - 2}), api.Divisor{0, 1, most}, api.Script{1, 1, 0}, api.OK}, {from(triangle(), 2, api.Divisor{1, 2, most - 1}), nil, nil, api.ErrLarge},
		} {
			x.picks = picks
			x.check(t)
		}
	}
}

// TestDriftLimits has as many picks as there may be firings, and more.
func TestDriftLimits(t *testing.T) {
	half := api.MaxFirings / 2
	for _, x := range []drifting{
		{settling{from(pair(1), 0, api.Divisor{0, half}, 0), api.Divisor{half, 0}, api.Script{0, half}, api.OK}, half}, {settling{from(pair(1), 0, api.Divisor{0, half}, 1), api.Divisor{half, 0}, api.Script{0, half}, api.OK}, 1}, {settling{from(pair(1), 0, api.Divisor{0, half}, 0, 0, 1, 1), api.Divisor{half, 0}, api.Script{0, half}, api.OK}, 2}, {settling{from(pair(1), 0, api.Divisor{0, half + 1}, 0), nil, nil, api.ErrLimit}, 0}, {settling{from(pair(1), 0, api.Divisor{most, half + 1}, 1), nil, nil, api.ErrLimit}, 0},
		// Two chips are sent by 2 at once; there is one pick less than there may be, as many, or one more.
		{settling{from(fork(1, 2), 0, api.Divisor{0, half - 2, 2}, 0), api.Divisor{half, 0, 0}, api.Script{0, half - 2, 1}, api.OK}, half}, {settling{from(fork(1, 2), 0, api.Divisor{0, half - 3, 4}, 0), api.Divisor{half + 1, 0, 0}, api.Script{0, half - 3, 2}, api.OK}, half + 1}, {settling{from(fork(1, 2), 0, api.Divisor{0, half - 1, 2}, 0), nil, nil, api.ErrLimit}, 0},
		// Far more chips are on their way than there may be picks.
		{settling{from(full(12, 50), 0, append(api.Divisor{0}, slices.Repeat([]int{most}, 11)...), 0), nil, nil, api.ErrLimit}, 0}, {settling{from(full(12, 50), 0, append(api.Divisor{0}, slices.Repeat([]int{most}, 11)...), 5, math.MaxInt, 7919), nil, nil, api.ErrLimit}, 0},
		// The sink.
		{settling{from(pair(1), 0, api.Divisor{most - 3, 3}, 0), api.Divisor{most, 0}, api.Script{0, 3}, api.OK}, 3}, {settling{from(pair(1), 0, api.Divisor{most - 2, 3}, 0), nil, nil, api.ErrLarge}, 0}, {settling{from(pair(50), 0, api.Divisor{most - 50, 99}, 0), api.Divisor{most, 49}, api.Script{0, 1}, api.OK}, 50}, {settling{from(pair(50), 0, api.Divisor{most - 49, 99}, 0), nil, nil, api.ErrLarge}, 0}, {settling{from(edges(1), 0, api.Divisor{most}, 0), api.Divisor{most}, api.Script{0}, api.OK}, 0},
	} {
		x.check(t)
	}
}
