package firing_test

import (
	"math"
	"math/rand"
	"slices"
	"testing"

	"sandpile/api"
	"sandpile/firing"
)

// Tests of P18.2.

func TestLegal(t *testing.T) {
	r := rand.New(rand.NewSource(77))
	legals, others := 0, 0
	for _, g := range samples() {
		for range 6 {
			d := make(api.Divisor, g.N)
			for _, v := range r.Perm(g.N) {
				// Many vertices have just as many chips as they need, or one less.
				d[v] = outgoing(g, []int{v})[v] - r.Intn(3)/2 - r.Intn(12)/11*r.Intn(40)
			}
			for v := range g.N {
				isLegal, e := firing.Legal(g, d, v)
				if want := legal(g, d, []int{v}); isLegal != want || e != api.OK {
					t.Errorf("%d in %v on %v: legal %v beside the error %d", v, d, g, isLegal, e)
				}
			}
			for _, set := range sets(r, g.N) {
				leads, lacks := outgoing(g, set), slices.Clone(d)
				for _, v := range set {
					lacks[v] = leads[v]
				}
				if len(set) > 0 && r.Intn(2) == 0 {
					lacks[set[r.Intn(len(set))]]--
				}
				for _, d := range []api.Divisor{d, lacks} {
					isLegal, e := firing.LegalSet(g, d, set)
					want := legal(g, d, set)
					if isLegal != want || e != api.OK {
						t.Errorf("%v in %v on %v: legal %v beside the error %d", set, d, g, isLegal, e)
					}
					if want {
						legals++
					} else {
						others++
					}
				}
			}
			for _, v := range outside(g.N) {
				arguments{g, d, nil, v, []int{v}, nil}.calls().expect(t, []string{"Legal", "LegalSet"}, v, api.ErrRange)
			}
		}
	}
	if legals < 1000 || others < 1000 {
		t.Errorf("%d sets are legal, and %d are not", legals, others)
	}
}

func TestLegalByHand(t *testing.T) {
	for _, x := range []struct {
		g    api.Graph
		d    api.Divisor
		v    int
		want bool
	}{
		{triangle(), api.Divisor{2, 0, 0}, 0, true}, {triangle(), api.Divisor{1, 0, 0}, 0, false}, {triangle(), api.Divisor{3, 0, 0}, 0, true}, {triangle(), api.Divisor{2, 0, 0}, 1, false}, {triangle(), api.Divisor{2, -most, most}, 0, true}, {triangle(), api.Divisor{-2, 0, 0}, 0, false}, {triangle(), api.Divisor{0, most, 0}, 1, true},
		// Loops do not count; a vertex with the valence 0 is never legal.
		{looped(), api.Divisor{3, 0, 0, 0, 0}, 0, true}, {looped(), api.Divisor{2, 0, 0, 0, 0}, 0, false}, {looped(), api.Divisor{0, 0, 0, 1, 0}, 3, true}, {looped(), api.Divisor{0, 0, 0, 0, 9}, 4, false}, {edges(1), api.Divisor{0}, 0, false}, {edges(1), api.Divisor{most}, 0, false}, {edges(1, edge(0, 0, 2)), api.Divisor{4}, 0, false}, {edges(2), api.Divisor{5, 5}, 1, false}, {edges(2, edge(0, 1, 50)), api.Divisor{50, 49}, 0, true}, {edges(2, edge(0, 1, 50)), api.Divisor{50, 49}, 1, false},
		// It is legal even if there would be no divisor behind it.
		{edges(2, edge(0, 1, 1)), api.Divisor{1, most}, 0, true},
	} {
		isLegal, e := firing.Legal(x.g, x.d, x.v)
		if isLegal != x.want || e != api.OK {
			t.Errorf("Legal of %v: %v beside the error %d", x, isLegal, e)
		}
	}
	for _, x := range []struct {
		g    api.Graph
		d    api.Divisor
		set  []int
		want bool
		e    api.Errno
	}{
		{triangle(), api.Divisor{1, 1, 0}, []int{0, 1}, true, api.OK}, {triangle(), api.Divisor{1, 0, 0}, []int{0, 1}, false, api.OK}, {triangle(), api.Divisor{0, 1, 0}, []int{0, 1}, false, api.OK}, {triangle(), api.Divisor{1, 1, -9}, []int{0, 1}, true, api.OK}, {triangle(), api.Divisor{9, 9, 9}, nil, false, api.OK}, {triangle(), api.Divisor{9, 9, 9}, []int{0, 1, 2}, false, api.OK}, {triangle(), api.Divisor{9, 9, 9}, []int{0, 2}, true, api.OK}, {edges(1), api.Divisor{9}, []int{0}, false, api.OK}, {edges(1), api.Divisor{9}, nil, false, api.OK},
		// A component of the graph, alone and with another vertex; vertices of the set from which no single edge leads out may have no debts.
		{looped(), api.Divisor{9, 9, 9, 9, 9}, []int{0, 1, 2, 3}, false, api.OK}, {looped(), api.Divisor{9, 9, 9, 9, 9}, []int{4}, false, api.OK}, {looped(), api.Divisor{0, 0, 0, 1, 0}, []int{3, 4}, true, api.OK}, {looped(), api.Divisor{0, 0, 0, 1, -1}, []int{3, 4}, false, api.OK}, {looped(), api.Divisor{0, 0, 1, 0, 0}, []int{0, 1, 2}, true, api.OK}, {looped(), api.Divisor{-1, 0, 1, 0, 0}, []int{0, 1, 2}, false, api.OK}, {looped(), api.Divisor{0, -1, 1, 0, 0}, []int{0, 1, 2}, false, api.OK}, {looped(), api.Divisor{0, 0, 0, 0, 0}, []int{0, 1, 2}, false, api.OK}, {looped(), api.Divisor{2, 0, 2, 0, 0}, []int{0, 2, 4}, true, api.OK}, {looped(), api.Divisor{1, 0, 2, 0, 0}, []int{0, 2, 4}, false, api.OK},
		{edges(2, edge(0, 1, 50)), api.Divisor{50, most}, []int{0}, true, api.OK}, {edges(2, edge(0, 1, 50)), api.Divisor{49, 0}, []int{0}, false, api.OK},
		{triangle(), api.Divisor{1, 1, 1}, []int{-1}, false, api.ErrRange}, {triangle(), api.Divisor{1, 1, 1}, []int{0, 3, 1}, false, api.ErrRange}, {triangle(), api.Divisor{1, 1, 1}, []int{0, 0}, false, api.ErrOrder}, {triangle(), api.Divisor{1, 1, 1}, []int{1, 0}, false, api.ErrOrder}, {triangle(), api.Divisor{1, 1, 1}, []int{1, 0, 3}, false, api.ErrOrder}, {triangle(), api.Divisor{1, 1, 1}, make([]int, 5000), false, api.ErrOrder},
	} {
		isLegal, e := firing.LegalSet(x.g, x.d, x.set)
		if isLegal != x.want || e != x.e {
			t.Errorf("LegalSet of %s: %v beside the error %d", short(x), isLegal, e)
		}
	}
}

// played plays moves one by one, as far as they are legal and lead to divisors.
func played(g api.Graph, d api.Divisor, moves []int) (api.Divisor, int, api.Errno) {
	for i, v := range moves {
		if !legal(g, d, []int{v}) {
			return nil, i, api.ErrLegal
		}
		behind, e := fits(moved(g, d, times(g.N, []int{v}, 1)))
		if e != api.OK {
			return nil, i, e
		}
		d = behind
	}
	return d, len(moves), api.OK
}

func TestPlay(t *testing.T) {
	r := rand.New(rand.NewSource(78))
	ended := map[api.Errno]int{}
	for _, g := range samples() {
		for range 20 {
			d := some(r, g.N, 30)
			d[r.Intn(g.N)] += 60
			if r.Intn(3) == 0 {
				d[r.Intn(g.N)] = most - r.Intn(5)
			}
			// Most moves are legal ones, if there are any.
			var moves []int
			at := slices.Clone(d)
			for range r.Intn(12) {
				v := r.Intn(g.N)
				for _, w := range r.Perm(g.N) {
					if legal(g, at, []int{w}) && r.Intn(20) > 0 {
						v = w
					}
				}
				moves, at = append(moves, v), moved(g, at, times(g.N, []int{v}, 1))
			}
			want, count, error := played(g, d, moves)
			got, n, e := firing.Play(g, d, moves)
			agreesPlay(t, []any{g, d, moves}, got, n, e, want, count, error)
			ended[error]++
			for _, v := range outside(g.N) {
				at := r.Intn(len(moves) + 1)
				wrong := slices.Insert(slices.Clone(moves), at, v)
				arguments{g, d, nil, 0, nil, wrong}.calls().expect(t, withMoves(), []any{g, d, wrong}, api.ErrRange)
			}
		}
	}
	if ended[api.OK] < 200 || ended[api.ErrLegal] < 200 || ended[api.ErrLarge] < 50 {
		t.Errorf("the moves end with the errors %v", ended)
	}
}

// agreesPlay checks the results of Play.
func agreesPlay(t *testing.T, what any, d api.Divisor, n int, e api.Errno, want api.Divisor, count int, error api.Errno) {
	t.Helper()
	if !slices.Equal(d, want) || n != count || e != error {
		t.Errorf("Play of %s: %v, %d beside the error %d, want %v, %d beside %d", short(what), d, n, e, want, count, error)
	}
}

func TestPlayByHand(t *testing.T) {
	pair := edges(2, edge(0, 1, 1))
	many := func(n int, last ...int) []int { return append(make([]int, n-len(last)), last...) }
	// Both vertices fire in turns, as often as there may be moves.
	turns := slices.Repeat([]int{0, 1}, api.MaxEvents/2)
	for _, x := range []struct {
		g     api.Graph
		d     api.Divisor
		moves []int
		want  api.Divisor
		n     int
		e     api.Errno
	}{
		{triangle(), api.Divisor{4, 0, 0}, []int{0, 0}, api.Divisor{0, 2, 2}, 2, api.OK}, {triangle(), api.Divisor{4, 0, 0}, []int{0, 0, 0}, nil, 2, api.ErrLegal}, {triangle(), api.Divisor{4, 0, 0}, []int{0, 0, 1, 2}, api.Divisor{2, 1, 1}, 4, api.OK}, {triangle(), api.Divisor{4, 0, 0}, []int{1, 0}, nil, 0, api.ErrLegal}, {triangle(), api.Divisor{4, 0, 0}, []int{0, 1, 2}, nil, 1, api.ErrLegal},
		{triangle(), api.Divisor{4, -1, 0}, nil, api.Divisor{4, -1, 0}, 0, api.OK}, {triangle(), api.Divisor{most, -most, 0}, []int{}, api.Divisor{most, -most, 0}, 0, api.OK}, {edges(1), api.Divisor{4}, nil, api.Divisor{4}, 0, api.OK},
		// A vertex with the valence 0 is never legal.
		{edges(1), api.Divisor{4}, []int{0}, nil, 0, api.ErrLegal}, {edges(1, edge(0, 0, 1)), api.Divisor{4}, []int{0, 0}, nil, 0, api.ErrLegal}, {looped(), api.Divisor{3, 0, 0, 0, 9}, []int{0, 4}, nil, 1, api.ErrLegal}, {edges(2), api.Divisor{4, 4}, []int{1}, nil, 0, api.ErrLegal},
		// No divisor behind a move, alone, behind others, and a move that is not legal before or behind it.
		{pair, api.Divisor{1, most}, []int{0}, nil, 0, api.ErrLarge}, {pair, api.Divisor{2, most - 1}, []int{0, 0}, nil, 1, api.ErrLarge}, {pair, api.Divisor{2, most - 1}, []int{0}, api.Divisor{1, most}, 1, api.OK}, {pair, api.Divisor{2, most - 2}, []int{0, 0}, api.Divisor{0, most}, 2, api.OK}, {pair, api.Divisor{1, most}, []int{0, 0}, nil, 0, api.ErrLarge}, {pair, api.Divisor{1, most}, []int{1, 0, 0, 0, 0}, nil, 2, api.ErrLarge}, {pair, api.Divisor{1, most - 1}, []int{0, 0, 1}, nil, 1, api.ErrLegal}, {pair, api.Divisor{0, most}, []int{0, 1}, nil, 0, api.ErrLegal}, {pair, api.Divisor{2, most}, []int{1, 0, 0}, nil, 2, api.ErrLarge}, {edges(3, edge(0, 1, 3), edge(1, 2, 1)), api.Divisor{0, 4, most}, []int{1}, nil, 0, api.ErrLarge}, {edges(3, edge(0, 1, 3), edge(1, 2, 1)), api.Divisor{0, 3, most}, []int{1}, nil, 0, api.ErrLegal}, {edges(3, edge(0, 1, 3), edge(1, 2, 1)), api.Divisor{most - 2, 4, 0}, []int{1}, nil, 0, api.ErrLarge}, {edges(3, edge(0, 1, 3), edge(1, 2, 1)), api.Divisor{most - 3, 4, most - 1}, []int{1}, api.Divisor{most, 0, most}, 1, api.OK},
		// As many moves as there may be, and more; this comes before all that is wrong with the moves.
		{pair, api.Divisor{1, 0}, turns, api.Divisor{1, 0}, 4096, api.OK}, {pair, api.Divisor{4096, 0}, many(4096), api.Divisor{0, 4096}, 4096, api.OK}, {pair, api.Divisor{4095, 0}, many(4096), nil, 4095, api.ErrLegal}, {pair, api.Divisor{4096, most - 4095}, many(4096), nil, 4095, api.ErrLarge}, {pair, api.Divisor{most, 0}, many(4097), nil, 0, api.ErrMany}, {pair, api.Divisor{0, 0}, many(4097), nil, 0, api.ErrMany}, {pair, api.Divisor{most, 0}, many(4097, -1), nil, 0, api.ErrMany}, {pair, api.Divisor{1, 0}, append([]int{5}, turns...), nil, 0, api.ErrMany},
		// A move that is no vertex comes before all that is not legal, or too large.
		{pair, api.Divisor{9, 0}, []int{2}, nil, 0, api.ErrRange}, {pair, api.Divisor{9, 0}, []int{-1}, nil, 0, api.ErrRange}, {pair, api.Divisor{9, 0}, []int{0, 0, 2}, nil, 0, api.ErrRange}, {pair, api.Divisor{0, 0}, []int{0, 0, 2}, nil, 0, api.ErrRange}, {pair, api.Divisor{1, most}, []int{0, -1}, nil, 0, api.ErrRange}, {pair, api.Divisor{9, 0}, []int{0, math.MaxInt}, nil, 0, api.ErrRange}, {pair, api.Divisor{9, 0}, []int{math.MinInt}, nil, 0, api.ErrRange}, {pair, api.Divisor{1, 0}, append(turns[1:], 2), nil, 0, api.ErrRange}, {edges(12), make(api.Divisor, 12), []int{12}, nil, 0, api.ErrRange}, {edges(1), api.Divisor{4}, []int{0, 1}, nil, 0, api.ErrRange},
	} {
		d, n, e := firing.Play(x.g, x.d, x.moves)
		agreesPlay(t, x, d, n, e, x.want, x.n, x.e)
	}
}

func TestCount(t *testing.T) {
	r := rand.New(rand.NewSource(79))
	for _, g := range samples() {
		for _, n := range []int{0, 1, 5, 100, 4095, 4096} {
			want, moves := make(api.Script, g.N), make([]int, n)
			for i := range moves {
				moves[i] = r.Intn(g.N)
				want[moves[i]]++
			}
			s, e := firing.Count(g, moves)
			agrees(t, "Count", []any{g, moves}, s, e, want, api.OK)
		}
	}
	for _, x := range []struct {
		g     api.Graph
		moves []int
		want  api.Script
		e     api.Errno
	}{
		{triangle(), []int{0, 2, 0, 0}, api.Script{3, 0, 1}, api.OK}, {triangle(), nil, api.Script{0, 0, 0}, api.OK}, {triangle(), []int{}, api.Script{0, 0, 0}, api.OK}, {edges(1), []int{0, 0}, api.Script{2}, api.OK}, {edges(12), []int{11}, api.Script{0, 0, 0, 0, 0, 0, 0, 0, 0, 0, 0, 1}, api.OK}, {triangle(), make([]int, 4096), api.Script{4096, 0, 0}, api.OK},
		{triangle(), make([]int, 4097), nil, api.ErrMany}, {triangle(), slices.Repeat([]int{3}, 4097), nil, api.ErrMany}, {triangle(), slices.Repeat([]int{3}, 4096), nil, api.ErrRange}, {triangle(), []int{3}, nil, api.ErrRange}, {triangle(), []int{-1}, nil, api.ErrRange}, {triangle(), []int{0, 1, 2, 3}, nil, api.ErrRange}, {triangle(), []int{math.MinInt, 0}, nil, api.ErrRange}, {triangle(), []int{0, math.MaxInt}, nil, api.ErrRange}, {edges(1), []int{1}, nil, api.ErrRange}, {edges(12), []int{12}, nil, api.ErrRange},
	} {
		s, e := firing.Count(x.g, x.moves)
		agrees(t, "Count", x, s, e, x.want, x.e)
	}
}

// levels returns the sets of a script by its definition.
func levels(s api.Script) ([][]int, api.Errno) {
	var l [][]int
	top, bottom := slices.Max(s), slices.Min(s)
	for i := 1; top-i >= bottom; i++ {
		if i > api.MaxList {
			return nil, api.ErrLimit
		}
		var set []int
		for v := range s {
			if s[v] > top-i {
				set = append(set, v)
			}
		}
		l = append(l, set)
	}
	return l, api.OK
}

func TestSets(t *testing.T) {
	r := rand.New(rand.NewSource(80))
	for _, g := range samples() {
		for _, top := range []int{0, 1, 3, 20, 128, 140, most} {
			s := some(r, g.N, top)
			want, error := levels(s)
			l, e := firing.Sets(g, s)
			agreesSets(t, s, l, e, want, error)
		}
		// The same everywhere, and then as many sets as there may be, and one more.
		for _, k := range []int{0, 1, -5, most - 256, 257 - most} {
			s := slices.Repeat(api.Script{k}, g.N)
			l, e := firing.Sets(g, s)
			agreesSets(t, s, l, e, nil, api.OK)
			if g.N > 1 {
				v := r.Intn(g.N)
				s[v] = k + 256
				l, e = firing.Sets(g, s)
				agreesSets(t, s, l, e, slices.Repeat([][]int{{v}}, 256), api.OK)
				s[(v+1)%g.N] = k - 1
				l, e = firing.Sets(g, s)
				agreesSets(t, s, l, e, nil, api.ErrLimit)
			}
		}
	}
	for _, x := range []struct {
		s    api.Script
		want [][]int
		e    api.Errno
	}{
		{api.Script{2, 1, 0}, [][]int{{0}, {0, 1}}, api.OK}, {api.Script{0, 0, 0}, nil, api.OK}, {api.Script{most, most, most}, nil, api.OK}, {api.Script{-3, -1, -1}, [][]int{{1, 2}, {1, 2}}, api.OK}, {api.Script{0, -1, 2}, [][]int{{2}, {2}, {0, 2}}, api.OK}, {api.Script{0, 1, 0}, [][]int{{1}}, api.OK}, {api.Script{1, 0, 1}, [][]int{{0, 2}}, api.OK},
		{api.Script{257, 0, 1}, nil, api.ErrLimit}, {api.Script{-most, most, 0}, nil, api.ErrLimit}, {api.Script{most, most - 257, most}, nil, api.ErrLimit}, {api.Script{-128, 129, 0}, nil, api.ErrLimit},
	} {
		l, e := firing.Sets(triangle(), x.s)
		agreesSets(t, x.s, l, e, x.want, x.e)
	}
}

// agreesSets checks sets and an error.
func agreesSets(t *testing.T, s api.Script, l [][]int, e api.Errno, want [][]int, error api.Errno) {
	t.Helper()
	if !slices.EqualFunc(l, want, slices.Equal) || e != error {
		t.Errorf("Sets of %v: %v beside the error %d, want %v beside %d", s, l, e, want, error)
	}
}
