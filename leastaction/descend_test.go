package leastaction_test

import (
	"fmt"
	"math"
	"math/rand"
	"slices"
	"testing"

	"sandpile/api"
	"sandpile/leastaction"
)

// Tests of P22.2.

func TestDescend(t *testing.T) {
	r := rand.New(rand.NewSource(234))
	none, longer := 0, 0
	for _, g := range samples(6) {
		for range 4 {
			q := r.Intn(g.N)
			d := some(r, g, q, 50)
			for _, s := range someScripts(r, g, q, d) {
				left, n, e := leastaction.Descend(g, q, d, s)
				if !stabilizing(g, q, d, s) {
					agrees(t, "Descend", []any{g, q, d, s}, left, e, nil, api.ErrState)
					continue
				}
				want, times := s, 0
				for {
					_, set := removable(g, q, d, want)
					if len(set) == 0 {
						break
					}
					want = plus(want, -1, set...)
					times++
				}
				agrees(t, "Descend", []any{g, q, d, s}, left, e, want, api.OK)
				if n != times {
					t.Errorf("Descend of %v from %v on %v with the sink %d takes %d sets away, want %d", s, d, g, q, n, times)
				}
				if times == 0 {
					none++
				}
				if times > 3 {
					longer++
				}
			}
		}
	}
	if none < 100 || longer < 100 {
		t.Errorf("nothing is taken away %d times, and many sets are %d times", none, longer)
	}
}

func TestDescendByHand(t *testing.T) {
	for _, x := range []struct {
		g    api.Graph
		q    int
		d    api.Divisor
		s    api.Script
		want api.Script
		n    int
		e    api.Errno
	}{
		{triangle(), 0, api.Divisor{0, 2, 1}, api.Script{0, 3, 2}, api.Script{0, 1, 1}, 2, api.OK}, {triangle(), 0, api.Divisor{0, 2, 1}, api.Script{0, 1, 1}, api.Script{0, 1, 1}, 0, api.OK}, {triangle(), 0, api.Divisor{0, 0, 0}, api.Script{0, 0, 0}, api.Script{0, 0, 0}, 0, api.OK}, {fork(), 0, api.Divisor{0, 0, 2}, api.Script{0, 5, 7}, api.Script{0, 0, 2}, 5, api.OK}, {fork(), 0, api.Divisor{0, 0, 2}, api.Script{0, 3, 7}, api.Script{0, 0, 2}, 5, api.OK}, {edges(1), 0, api.Divisor{9}, api.Script{0}, api.Script{0}, 0, api.OK}, {looped(), 3, api.Divisor{3, 2, 2, 0}, api.Script{4, 4, 3, 0}, api.Script{3, 3, 2, 0}, 1, api.OK},
		{triangle(), 0, api.Divisor{0, 2, 1}, api.Script{0, 1, 0}, nil, 0, api.ErrState}, {triangle(), 0, api.Divisor{0, 0, 0}, api.Script{0, 0, -1}, nil, 0, api.ErrState}, {triangle(), 0, api.Divisor{0, 0, 0}, api.Script{1, 1, 1}, nil, 0, api.ErrState}, {fork(), 0, api.Divisor{0, 1, 0}, api.Script{0, 0, most}, nil, 0, api.ErrState},
		// As many sets as may be, and one more.
		{pair(1), 0, api.Divisor{0, 0}, api.Script{0, 4095}, api.Script{0, 0}, 4095, api.OK}, {pair(1), 0, api.Divisor{0, 0}, api.Script{0, 4096}, api.Script{0, 0}, 4096, api.OK}, {pair(1), 0, api.Divisor{0, 0}, api.Script{0, 4097}, nil, 0, api.ErrLimit}, {pair(1), 0, api.Divisor{0, 0}, api.Script{0, most}, nil, 0, api.ErrLimit}, {pair(1), 0, api.Divisor{most, 3}, api.Script{0, 4099}, api.Script{0, 3}, 4096, api.OK}, {pair(1), 0, api.Divisor{most, 3}, api.Script{0, 4100}, nil, 0, api.ErrLimit}, {pair(1), 0, api.Divisor{0, most}, api.Script{0, most}, api.Script{0, most}, 0, api.OK}, {pair(1), 0, api.Divisor{0, most - 5000}, api.Script{0, most - 904}, api.Script{0, most - 5000}, 4096, api.OK}, {fork(), 0, api.Divisor{0, 0, 1}, api.Script{0, 4096, 4097}, api.Script{0, 0, 1}, 4096, api.OK}, {fork(), 0, api.Divisor{0, 0, 0}, api.Script{0, 4096, 4097}, nil, 0, api.ErrLimit}, {full(12, 50), 0, make(api.Divisor, 12), append(api.Script{0}, slices.Repeat([]int{4096}, 11)...), make(api.Script, 12), 4096, api.OK}, {full(12, 50), 0, make(api.Divisor, 12), append(api.Script{0}, slices.Repeat([]int{most}, 11)...), nil, 0, api.ErrLimit},
	} {
		left, n, e := leastaction.Descend(x.g, x.q, x.d, x.s)
		agrees(t, "Descend", []any{x.g, x.q, x.d, x.s}, left, e, x.want, x.e)
		if n != x.n {
			t.Errorf("Descend of %s takes %d sets away, want %d", short(x), n, x.n)
		}
	}
}

// TestMeet has scripts of all kinds, also on graphs that are not connected.
func TestMeet(t *testing.T) {
	r := rand.New(rand.NewSource(235))
	for _, g := range append(samples(api.MaxVertices), edges(2), edges(12), edges(5, edge(1, 3, 2))) {
		for range 10 {
			first, second, want := make(api.Script, g.N), make(api.Script, g.N), make(api.Script, g.N)
			for v := range g.N {
				first[v], second[v] = r.Intn(9)-3, r.Intn(9)-3
				if r.Intn(9) == 0 {
					first[v] = r.Intn(2*most+1) - most
				}
				want[v] = min(first[v], second[v])
			}
			got, e := leastaction.Meet(g, first, second)
			agrees(t, "Meet", []any{g, first, second}, got, e, want, api.OK)
		}
	}
	for _, x := range [][3]api.Script{{{0, 3, 2}, {0, 2, 3}, {0, 2, 2}}, {{-1, 5, 0}, {4, -5, 0}, {-1, -5, 0}}, {{most, -most, 0}, {most, most, 0}, {most, -most, 0}}} {
		got, e := leastaction.Meet(triangle(), x[0], x[1])
		agrees(t, "Meet", x[:2], got, e, x[2], api.OK)
	}
}

// TestMeetErrors has graphs and lists that are none: the error of the first script comes before that of the second one.
func TestMeetErrors(t *testing.T) {
	meet := []string{"Meet"}
	for _, x := range []struct {
		g api.Graph
		e api.Errno
	}{{api.Graph{}, api.ErrRange}, {edges(13), api.ErrRange}, {edges(3, edge(0, 3, 1)), api.ErrRange}, {edges(3, edge(1, 0, 1)), api.ErrOrder}, {edges(3, edge(0, 1, 1), edge(0, 1, 1)), api.ErrOrder}} {
		for _, s := range []api.Script{nil, {0, 0, 0}, {0, most + 1, 0}, make(api.Script, 13)} {
			arguments{x.g, 0, nil, s, s}.calls().expect(t, meet, x.g, x.e)
		}
	}
	wrong := outOfRange()
	for first, l := range wrong {
		for _, s := range l {
			arguments{triangle(), 0, nil, s, api.Script{0, 0, 0}}.calls().expect(t, meet, s, first)
			arguments{triangle(), 0, nil, api.Script{0, 0, 0}, s}.calls().expect(t, meet, s, first)
			for _, l := range wrong {
				for _, second := range l {
					arguments{triangle(), 0, nil, s, second}.calls().expect(t, meet, []any{s, second}, first)
				}
			}
		}
	}
}

// order returns the first order, as a list of vertices, in which the vertices of a script can be fired, each as often as it says, and whether there is one: every order is tried.
func order(g api.Graph, q int, d api.Divisor, s api.Script) ([]int, bool) {
	dead := map[string]bool{}
	var rest func(s api.Script, d api.Divisor) ([]int, bool)
	rest = func(s api.Script, d api.Divisor) ([]int, bool) {
		if slices.Max(s) == 0 {
			return nil, true
		}
		if dead[fmt.Sprint(s)] {
			return nil, false
		}
		for _, v := range unstable(g, q, d) {
			if s[v] == 0 {
				continue
			}
			if l, ok := rest(plus(s, -1, v), behind(g, d, plus(make(api.Script, g.N), 1, v))); ok {
				return append([]int{v}, l...), true
			}
		}
		dead[fmt.Sprint(s)] = true
		return nil, false
	}
	return rest(s, d)
}

func TestLegal(t *testing.T) {
	r := rand.New(rand.NewSource(236))
	found, moved := map[bool]int{}, 0
	for _, g := range samples(6) {
		for range 6 {
			q := r.Intn(g.N)
			d := some(r, g, q, 12)
			odometer := above(g, q, d, make(api.Script, g.N))
			if number(odometer) > 2000 {
				continue
			}
			for range 8 {
				s := slices.Clone(odometer)
				for v := range s {
					if v != q && r.Intn(3) == 0 {
						s[v] = r.Intn(s[v] + 2)
					}
				}
				want, ok := order(g, q, d, s)
				l, is, e := leastaction.Legal(g, q, d, s)
				agrees(t, "Legal", []any{g, q, d, s}, l, e, want, api.OK)
				agreesTruth(t, "Legal", []any{g, q, d, s}, is, e, ok, api.OK)
				found[ok]++
				moved += len(l)
			}
		}
	}
	if found[true] < 300 || found[false] < 300 || moved < 1000 {
		t.Errorf("the scripts are legal: %v, with %d moves", found, moved)
	}
}

func TestLegalByHand(t *testing.T) {
	ones := func(n int) []int { return slices.Repeat([]int{1}, n) }
	for _, x := range []struct {
		g    api.Graph
		q    int
		d    api.Divisor
		s    api.Script
		want []int
		is   bool
		e    api.Errno
	}{
		{triangle(), 0, api.Divisor{0, 2, 1}, api.Script{0, 1, 0}, []int{1}, true, api.OK}, {triangle(), 0, api.Divisor{0, 2, 1}, api.Script{0, 1, 1}, []int{1, 2}, true, api.OK}, {triangle(), 0, api.Divisor{0, 2, 1}, api.Script{0, 0, 1}, nil, false, api.OK}, {triangle(), 0, api.Divisor{0, 2, 1}, api.Script{0, 1, 2}, nil, false, api.OK},
		// Nothing has to fire.
		{triangle(), 0, api.Divisor{0, 2, 1}, api.Script{0, 0, 0}, nil, true, api.OK}, {triangle(), 0, api.Divisor{0, 0, 0}, api.Script{0, 0, 0}, nil, true, api.OK}, {edges(1), 0, api.Divisor{5}, api.Script{0}, nil, true, api.OK},
		// Several orders are possible, and the least vertex that is possible is always the next one.
		{triangle(), 0, api.Divisor{0, 2, 2}, api.Script{0, 1, 1}, []int{1, 2}, true, api.OK}, {fork(), 0, api.Divisor{0, 2, 2}, api.Script{0, 2, 2}, []int{1, 1, 2, 2}, true, api.OK}, {triangle(), 2, api.Divisor{4, 2, 0}, api.Script{3, 2, 0}, []int{0, 0, 1, 1, 0}, true, api.OK}, {triangle(), 0, api.Divisor{0, 1, 2}, api.Script{0, 1, 1}, []int{2, 1}, true, api.OK}, {fork(), 1, api.Divisor{2, 0, 1}, api.Script{2, 0, 2}, []int{0, 2, 2, 0}, true, api.OK},
		// A legal beginning goes no further: 1 would be the third one, or 2 the second one.
		{triangle(), 0, api.Divisor{0, 2, 1}, api.Script{0, 2, 1}, nil, false, api.OK}, {triangle(), 0, api.Divisor{0, 2, 0}, api.Script{0, 1, 1}, nil, false, api.OK}, {pair(3), 0, api.Divisor{0, 8}, api.Script{0, 3}, nil, false, api.OK}, {pair(3), 0, api.Divisor{0, 8}, api.Script{0, 2}, ones(2), true, api.OK}, {pair(1), 0, api.Divisor{0, 4000}, api.Script{0, 4001}, nil, false, api.OK},
		// Loops do not matter.
		{looped(), 0, api.Divisor{0, 0, 0, 1}, api.Script{0, 0, 0, 1}, []int{3}, true, api.OK}, {looped(), 0, api.Divisor{0, 0, 0, 1}, api.Script{0, 0, 0, 2}, nil, false, api.OK},
		// Negative numbers, and other numbers than 0 at the sink; they come before a great sum.
		{triangle(), 0, api.Divisor{0, 2, 1}, api.Script{0, 1, -1}, nil, false, api.ErrRange}, {triangle(), 0, api.Divisor{0, 2, 1}, api.Script{1, 0, 0}, nil, false, api.ErrRange}, {triangle(), 0, api.Divisor{0, 2, 1}, api.Script{-1, 0, 0}, nil, false, api.ErrRange}, {triangle(), 0, api.Divisor{9, 2, 1}, api.Script{1, 1, 1}, nil, false, api.ErrRange}, {edges(1), 0, api.Divisor{5}, api.Script{1}, nil, false, api.ErrRange}, {edges(1), 0, api.Divisor{5}, api.Script{-most}, nil, false, api.ErrRange}, {triangle(), 0, api.Divisor{0, 2, 1}, api.Script{0, most, -1}, nil, false, api.ErrRange}, {triangle(), 0, api.Divisor{0, 2, 1}, api.Script{5000, 0, 0}, nil, false, api.ErrRange}, {triangle(), 0, api.Divisor{0, most, most}, api.Script{0, 4097, -1}, nil, false, api.ErrRange}, {triangle(), 0, api.Divisor{0, most, most}, api.Script{-4097, 4097, 0}, nil, false, api.ErrRange},
		// The greatest sum that may be, and one more, whether these scripts are legal or not.
		{pair(1), 0, api.Divisor{0, 9999}, api.Script{0, 4095}, ones(4095), true, api.OK}, {pair(1), 0, api.Divisor{0, 9999}, api.Script{0, 4096}, ones(4096), true, api.OK}, {pair(1), 0, api.Divisor{0, 9999}, api.Script{0, 4097}, nil, false, api.ErrLimit}, {pair(1), 0, api.Divisor{0, 4095}, api.Script{0, 4096}, nil, false, api.OK}, {pair(1), 0, api.Divisor{0, 0}, api.Script{0, 4097}, nil, false, api.ErrLimit}, {fork(), 0, api.Divisor{0, 4095, 1}, api.Script{0, 4095, 1}, append(ones(4095), 2), true, api.OK}, {fork(), 0, api.Divisor{0, 4095, 2}, api.Script{0, 4095, 2}, nil, false, api.ErrLimit}, {full(12, 50), 0, slices.Repeat(api.Divisor{most}, 12), append(api.Script{0}, slices.Repeat([]int{most}, 11)...), nil, false, api.ErrLimit},
		// More chips than there may be do not matter.
		{pair(50), 0, api.Divisor{most, 99}, api.Script{0, 1}, ones(1), true, api.OK}, {triangle(), 0, api.Divisor{most, 2, most}, api.Script{0, 1, 1}, []int{1, 2}, true, api.OK}, {triangle(), 0, api.Divisor{-most, most, 0}, api.Script{0, 0, 1}, nil, false, api.OK},
	} {
		l, is, e := leastaction.Legal(x.g, x.q, x.d, x.s)
		agrees(t, "Legal", []any{x.g, x.q, x.d, x.s}, l, e, x.want, x.e)
		agreesTruth(t, "Legal", []any{x.g, x.q, x.d, x.s}, is, e, x.is, x.e)
	}
	for _, v := range []int{math.MinInt, math.MaxInt, most + 1} {
		arguments{triangle(), 0, api.Divisor{0, 2, 1}, api.Script{0, v, 0}, nil}.calls().expect(t, []string{"Legal"}, v, api.ErrRange)
	}
}
