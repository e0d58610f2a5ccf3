package parallel_test

import (
	"math"
	"math/rand"
	"testing"

	"sandpile/api"
	"sandpile/parallel"
)

// Tests of P20.2.

// TestErrorsWithoutSink calls the functions of closed games with divisors with which none can be played.
func TestErrorsWithoutSink(t *testing.T) {
	for e, l := range faults() {
		for _, d := range l {
			arguments{triangle(), 0, d, 0, 0}.calls().expect(t, withoutSink(), d, e)
		}
	}
	for _, x := range []struct {
		g api.Graph
		d api.Divisor
		e api.Errno
	}{
		// Debts at any vertex come before too many chips.
		{triangle(), api.Divisor{-1, 0, 0}, api.ErrRange}, {triangle(), api.Divisor{-1, most, most}, api.ErrRange}, {triangle(), api.Divisor{most, most, -1}, api.ErrRange}, {triangle(), api.Divisor{-most, 0, 0}, api.ErrRange}, {edges(1), api.Divisor{-1}, api.ErrRange}, {edges(1, edge(0, 0, 1)), api.Divisor{-1}, api.ErrRange},
		{triangle(), api.Divisor{most, 1, 0}, api.ErrLarge}, {triangle(), api.Divisor{0, 1, most}, api.ErrLarge}, {triangle(), api.Divisor{most / 2, most / 4, most/4 + 1}, api.ErrLarge}, {triangle(), api.Divisor{most, most, most}, api.ErrLarge}, {edges(1), api.Divisor{most + 1}, api.ErrRange},
		{triangle(), api.Divisor{most, 0, 0}, api.OK}, {triangle(), api.Divisor{0, 0, most}, api.OK}, {triangle(), api.Divisor{most / 2, most / 4, most / 4}, api.OK}, {triangle(), api.Divisor{0, 0, 0}, api.OK}, {edges(1), api.Divisor{0}, api.OK}, {edges(1), api.Divisor{most}, api.OK},
	} {
		arguments{x.g, 0, x.d, 0, 0}.calls().expect(t, withoutSink(), x, x.e)
	}
}

func TestClosed(t *testing.T) {
	r := rand.New(rand.NewSource(213))
	still, all := 0, 0
	for _, g := range samples() {
		for range 20 {
			d := some(r, g, -1, []int{0, 50, 50000}[r.Intn(3)])
			if r.Intn(4) == 0 {
				for v := range d {
					d[v] = r.Intn(valence(g, v) + 1)
				}
			}
			want := ready(g, -1, d)
			behind, l, e := parallel.Closed(g, d)
			agrees(t, "Closed", []any{g, d}, behind, e, fired(g, d, want), api.OK)
			agrees(t, "Closed, fired,", []any{g, d}, l, e, want, api.OK)
			if len(want) == 0 {
				still++
			}
			if len(want) == g.N {
				all++
			}
		}
	}
	if still < 50 || all < 50 {
		t.Errorf("nothing fires in %d rounds, and all vertices in %d", still, all)
	}
}

func TestPlay(t *testing.T) {
	r := rand.New(rand.NewSource(214))
	ended, later, repeated, periods := 0, 0, 0, map[int]int{}
	for _, g := range samples() {
		for range 12 {
			d := some(r, g, -1, []int{0, 50, 500}[r.Intn(3)])
			if r.Intn(3) == 0 {
				for v := range d {
					d[v] = r.Intn(valence(g, v) + 2)
				}
			}
			want := game(g, d)
			got, e := parallel.Play(g, d)
			agreesGame(t, []any{g, d}, got, e, want)
			switch {
			case want.Ends && want.Before == 0:
				ended++
			case want.Ends:
				later++
			case want.Before > 0:
				repeated++
			}
			periods[want.Period]++
		}
	}
	if ended < 30 || later < 30 || repeated < 30 || len(periods) < 4 {
		t.Errorf("%d games end at once, and %d later, %d repeat later, and the periods are %v", ended, later, repeated, periods)
	}
}

// agreesGame checks a game, which may take too many rounds.
func agreesGame(t *testing.T, what any, got parallel.Game, e api.Errno, want parallel.Game) {
	t.Helper()
	error := api.OK
	if want.Before+want.Period > api.MaxEvents {
		want, error = parallel.Game{}, api.ErrLimit
	}
	agreesValue(t, "Play", what, got, e, want, error)
}

func TestPlayByHand(t *testing.T) {
	for _, x := range []struct {
		g    api.Graph
		d    api.Divisor
		want parallel.Game
	}{
		{triangle(), api.Divisor{2, 1, 0}, parallel.Game{Before: 0, Period: 3, Fired: 3}}, {triangle(), api.Divisor{1, 1, 0}, parallel.Game{Before: 0, Period: 1, Ends: true}}, {triangle(), api.Divisor{1, 1, 1}, parallel.Game{Before: 0, Period: 1, Ends: true}},
		// These end later; the last one is [1 0 1 0] in between.
		{triangle(), api.Divisor{2, 0, 0}, parallel.Game{Before: 1, Period: 1, Ends: true}}, {triangle(), api.Divisor{3, 0, 0}, parallel.Game{Before: 1, Period: 1, Ends: true}}, {path(4, 1), api.Divisor{1, 0, 0, 1}, parallel.Game{Before: 1, Period: 1, Ends: true}}, {path(4, 1), api.Divisor{0, 2, 0, 0}, parallel.Game{Before: 2, Period: 1, Ends: true}},
		// These repeat at once.
		{triangle(), api.Divisor{2, 2, 2}, parallel.Game{Before: 0, Period: 1, Fired: 3}}, {triangle(), api.Divisor{9, 5, 7}, parallel.Game{Before: 0, Period: 1, Fired: 3}}, {pair(1), api.Divisor{1, 1}, parallel.Game{Before: 0, Period: 1, Fired: 2}}, {pair(1), api.Divisor{1, 0}, parallel.Game{Before: 0, Period: 2, Fired: 2}}, {pair(50), api.Divisor{50, 0}, parallel.Game{Before: 0, Period: 2, Fired: 2}}, {pair(50), api.Divisor{49, 49}, parallel.Game{Before: 0, Period: 1, Ends: true}},
		// These repeat later: [2 1 1] and [0 2 2] come in turns, [1 1 1] and [3 0 0] on the fork.
		{triangle(), api.Divisor{4, 0, 0}, parallel.Game{Before: 1, Period: 2, Fired: 3}}, {pair(1), api.Divisor{7, 0}, parallel.Game{Before: 1, Period: 1, Fired: 2}}, {pair(2), api.Divisor{9, 0}, parallel.Game{Before: 1, Period: 1, Fired: 2}}, {fork(), api.Divisor{0, 3, 0}, parallel.Game{Before: 3, Period: 2, Fired: 3}},
		// One vertex, and loops.
		{edges(1), api.Divisor{0}, parallel.Game{Before: 0, Period: 1, Ends: true}}, {edges(1), api.Divisor{most}, parallel.Game{Before: 0, Period: 1, Ends: true}}, {edges(1, edge(0, 0, 50)), api.Divisor{200}, parallel.Game{Before: 0, Period: 1, Ends: true}}, {edges(2, edge(0, 0, 3), edge(0, 1, 1)), api.Divisor{1, 0}, parallel.Game{Before: 0, Period: 2, Fired: 2}},
		// As many chips as there may be.
		{pair(1), api.Divisor{most, 0}, parallel.Game{Before: 1, Period: 1, Fired: 2}}, {pair(1), api.Divisor{most / 2, most / 2}, parallel.Game{Before: 0, Period: 1, Fired: 2}}, {triangle(), api.Divisor{0, most, 0}, parallel.Game{Before: 2, Period: 1, Fired: 3}},
	} {
		got, e := parallel.Play(x.g, x.d)
		agreesGame(t, x, got, e, x.want)
	}
}

// TestLongGames has games that take as many rounds as they may take, and more or fewer.
func TestLongGames(t *testing.T) {
	for _, x := range []struct {
		g    api.Graph
		d    api.Divisor
		ends bool
	}{{tailed(12), api.Divisor{4089, 11: 0}, true}, {tailed(11), api.Divisor{4072, 10: 0}, false}} {
		want := game(x.g, x.d)
		d, rounds := x.d, map[int]bool{}
		// With each round that has been played already, the game takes one less.
		for want.Before+want.Period >= api.MaxEvents-2 {
			got, e := parallel.Play(x.g, d)
			agreesGame(t, []any{x.g, d}, got, e, want)
			rounds[want.Before+want.Period] = true
			d = fired(x.g, d, ready(x.g, -1, d))
			want.Before--
		}
		for _, n := range []int{api.MaxEvents - 1, api.MaxEvents, api.MaxEvents + 1, api.MaxEvents + 2} {
			if !rounds[n] || want.Ends != x.ends {
				t.Errorf("no game of %d rounds is played, or it ends: %v", n, want.Ends)
			}
		}
	}
	// Very many rounds are necessary here.
	for _, d := range []api.Divisor{{5400, 11: 0}, {most, 11: 0}} {
		got, e := parallel.Play(tailed(12), d)
		agreesValue(t, "Play", d, got, e, parallel.Game{}, api.ErrLimit)
	}
}

func TestCertain(t *testing.T) {
	for _, g := range samples() {
		m := size(g)
		want := func(n int) int {
			switch {
			case g.N == 1 || n < m:
				return 1
			case n > 2*m-g.N:
				return -1
			}
			return 0
		}
		for _, n := range []int{0, 1, m - 1, m, m + 1, 2*m - g.N - 1, 2*m - g.N, 2*m - g.N + 1, 2 * m, most - 1, most} {
			if n >= 0 {
				got, e := parallel.Certain(g, n)
				agreesValue(t, "Certain", []any{g, n}, got, e, want(n), api.OK)
			}
		}
		for _, n := range []int{-1, -2, -most, most + 1, math.MinInt, math.MaxInt} {
			arguments{g, 0, nil, 0, n}.calls().expect(t, []string{"Certain"}, []any{g, n}, api.ErrRange)
		}
	}
	for _, x := range []struct {
		g       api.Graph
		n, want int
	}{
		{triangle(), 0, 1}, {triangle(), 2, 1}, {triangle(), 3, 0}, {triangle(), 4, -1}, {triangle(), most, -1},
		{edges(1), 0, 1}, {edges(1), most, 1}, {edges(1, edge(0, 0, 3)), 0, 1}, {edges(1, edge(0, 0, 3)), 5, 1}, {edges(1, edge(0, 0, 3)), most, 1},
		// On a tree it is certain for all numbers; loops do not count.
		{path(4, 1), 2, 1}, {path(4, 1), 3, -1}, {looped(), 4, 1}, {looped(), 5, 0}, {looped(), 6, 0}, {looped(), 7, -1}, {pair(50), 49, 1}, {pair(50), 50, 0}, {pair(50), 98, 0}, {pair(50), 99, -1}, {full(12, 50), 3299, 1}, {full(12, 50), 3300, 0}, {full(12, 50), 6588, 0}, {full(12, 50), 6589, -1},
	} {
		got, e := parallel.Certain(x.g, x.n)
		agreesValue(t, "Certain", x, got, e, x.want, api.OK)
	}
}
