package parallel_test

import (
	"fmt"
	"math"
	"math/rand"
	"slices"
	"testing"

	"sandpile/api"
	"sandpile/chips"
	"sandpile/parallel"
	"sandpile/stabilize"
)

// Tests of P20.3, and of P1 for package parallel.

// TestRunIsStabilization compares runs with stabilizations, also with those that have an error.
func TestRunIsStabilization(t *testing.T) {
	r := rand.New(rand.NewSource(215))
	errors := map[api.Errno]int{}
	for _, g := range samples() {
		for i := range 8 {
			q, top := r.Intn(g.N), []int{5, 500, 5000}[i%3]
			if r.Intn(5) == 0 {
				top = most
			}
			d := some(r, g, q, top)
			if i < 4 {
				d[q] = most - r.Intn(1000)
			}
			want, script, error := stabilize.Stabilize(g, q, d)
			got, s, _, e := parallel.Run(g, q, d)
			agrees(t, "Run", []any{g, q, d}, got, e, want, error)
			agrees(t, "Run, fired,", []any{g, q, d}, s, e, script, error)
			errors[e]++
		}
	}
	if errors[api.OK] < 50 || errors[api.ErrLimit] < 20 || errors[api.ErrLarge] < 50 {
		t.Errorf("the runs end with the errors %v", errors)
	}
}

// TestParts plays rounds in parts, one by one, and in a run.
func TestParts(t *testing.T) {
	r := rand.New(rand.NewSource(216))
	for _, g := range samples() {
		q := r.Intn(g.N)
		d := some(r, g, q, 300)
		for _, parts := range [][2]int{{0, 0}, {0, 5}, {5, 0}, {1, 1}, {1, 2}, {3, 9}, {100, 17}, {4000, 96}} {
			whole, script, e := parallel.Rounds(g, q, d, parts[0]+parts[1])
			first, before, _ := parallel.Rounds(g, q, d, parts[0])
			second, behind, error := parallel.Rounds(g, q, first, parts[1])
			agrees(t, "Rounds", []any{g, q, d, parts}, second, error, whole, e)
			sum, _ := chips.Add(api.Divisor(before), api.Divisor(behind))
			agrees(t, "Rounds, fired,", []any{g, q, d, parts}, api.Script(sum), error, script, e)
		}
		want, script, rounds, e := parallel.Run(g, q, d)
		at, sum := d, make(api.Script, g.N)
		for range rounds {
			next, l, e := parallel.Round(g, q, at)
			if e != api.OK || len(l) == 0 {
				t.Fatalf("nothing fires in %v on %v with the sink %d, or the error is %d", at, g, q, e)
			}
			for _, v := range l {
				sum[v]++
			}
			at = next
		}
		agrees(t, "Round", []any{g, q, d}, at, e, want, api.OK)
		agrees(t, "Round, fired,", []any{g, q, d}, sum, e, script, api.OK)
		if rounds <= api.MaxEvents {
			behind, s, e := parallel.Rounds(g, q, d, rounds)
			agrees(t, "Rounds", []any{g, q, d, rounds}, behind, e, want, api.OK)
			agrees(t, "Rounds, fired,", []any{g, q, d, rounds}, s, e, script, api.OK)
		}
	}
}

// TestWhatIsCertainHappens plays all closed games with few chips on small graphs: neither is certain only if some end and others do not.
func TestWhatIsCertainHappens(t *testing.T) {
	l := []api.Graph{edges(1), edges(1, edge(0, 0, 2)), pair(1), pair(2), pair(5), edges(2, edge(0, 0, 1), edge(0, 1, 3)), triangle(), fork(), looped(), path(4, 1), path(3, 2), full(4, 1), tailed(3)}
	r := rand.New(rand.NewSource(217))
	for range 12 {
		l = append(l, random(r, 2+r.Intn(4), 0.3, 2))
	}
	found := map[int]int{}
	for _, g := range l {
		for n := range min(2*size(g)+2, 24) {
			certain, e := parallel.Certain(g, n)
			divisors, error := chips.All(g.N, n)
			if e != api.OK || error != api.OK {
				t.Fatalf("%d chips on %v: errors %d and %d", n, g, e, error)
			}
			ends := map[bool]int{}
			for _, d := range divisors {
				x, e := parallel.Play(g, d)
				if e != api.OK {
					t.Fatalf("%v on %v: error %d", d, g, e)
				}
				ends[x.Ends]++
			}
			want := 0
			if ends[false] == 0 {
				want = 1
			} else if ends[true] == 0 {
				want = -1
			}
			if certain != want {
				t.Errorf("%d is certain for %d chips on %v, and %d games end, %d do not", certain, n, g, ends[true], ends[false])
			}
			found[certain]++
		}
	}
	if found[1] < 20 || found[-1] < 20 || found[0] < 20 {
		t.Errorf("what is certain is %v", found)
	}
}

// TestPeriods plays closed games round by round, to the end of the period and once more.
func TestPeriods(t *testing.T) {
	r := rand.New(rand.NewSource(218))
	for _, g := range samples() {
		for range 8 {
			d := some(r, g, -1, 100)
			x, e := parallel.Play(g, d)
			if e != api.OK {
				t.Fatalf("%v on %v: error %d", d, g, e)
			}
			occurred, counts := []api.Divisor{d}, make([]int, g.N)
			for round := range x.Before + 2*x.Period {
				next, l, e := parallel.Closed(g, occurred[round])
				if e != api.OK {
					t.Fatalf("%v on %v: error %d", occurred[round], g, e)
				}
				occurred = append(occurred, next)
				for _, v := range l {
					if x.Before <= round && round < x.Before+x.Period {
						counts[v]++
					}
				}
			}
			for round, at := range occurred {
				first := slices.IndexFunc(occurred, func(y api.Divisor) bool { return slices.Equal(y, at) })
				want := round
				if round >= x.Before {
					want = x.Before + (round-x.Before)%x.Period
				}
				if first != want {
					t.Errorf("%v on %v is %v behind %d rounds and behind %d, but %v", d, g, at, first, round, x)
				}
			}
			if slices.Min(counts) != slices.Max(counts) || counts[0]*g.N != x.Fired || x.Ends != (x.Fired == 0) || x.Ends && x.Period != 1 {
				t.Errorf("%v on %v: %v, and the vertices fire %v times", d, g, x, counts)
			}
		}
	}
}

// TestTotal calls every function with all kinds of arguments: a panic fails the test, and beside an error everything is zero.
func TestTotal(t *testing.T) {
	r := rand.New(rand.NewSource(219))
	ints := []int{math.MinInt, -most - 1, -most, -2, -1, 0, 0, 0, 1, 1, 1, 2, 3, 4, 5, 11, 12, 13, 50, api.MaxEvents, api.MaxEvents + 1, most, most + 1, math.MaxInt}
	any := func() int { return ints[r.Intn(len(ints))] }
	right := samples()
	for range 4000 {
		g := right[r.Intn(len(right))]
		q := r.Intn(g.N)
		x := arguments{g, q, some(r, g, q, 1+r.Intn(most/100)), any(), any()}
		if r.Intn(2) == 0 {
			x.q = any()
			x.d = make(api.Divisor, r.Intn(6))
			for v := range x.d {
				x.d[v] = any()
			}
		}
		if r.Intn(4) == 0 {
			x.g = edges(any())
			for range r.Intn(4) {
				x.g.Edges = append(x.g.Edges, edge(any(), any(), any()))
			}
		}
		got := x.calls()
		for name, e := range got.e {
			if e != api.OK && !got.isZero(name) {
				t.Errorf("%s of %v has a result beside the error %d", name, x, e)
			}
		}
	}
}

// TestMemory changes results, and looks at the arguments and at other results.
func TestMemory(t *testing.T) {
	l := looped().Edges
	// The arguments have spare capacity, in which nothing may be written either.
	spare := func(l ...int) []int { return append(make([]int, 0, 20), l...) }
	for _, d := range [][]int{{9, 8, 7, 6}, {0, 2, 2, 0}, {-3, 0, 0, 0}, {0, 1, 2, 0}, {3, 0, 0, 0}} {
		for k := range 4 {
			x := arguments{edges(4, append(make([]api.Edge, 0, 20), l...)...), 0, spare(d...), k, k}
			first, second := x.calls(), x.calls()
			before := fmt.Sprint(second)
			for _, list := range first.lists {
				for i := range list {
					list[i] = 99
				}
				_ = append(list, 99, 99)
			}
			if now := fmt.Sprint(second); now != before {
				t.Errorf("%s changes to %s with another result", before, now)
			}
			if again := fmt.Sprint(x.calls()); again != before {
				t.Errorf("%s instead of %s", again, before)
			}
			if !slices.Equal(x.g.Edges, l) || !slices.Equal(x.g.Edges[6:20], make([]api.Edge, 14)) {
				t.Errorf("the graph is now %v", x.g.Edges[:20])
			}
			if !slices.Equal(x.d, d) || !slices.Equal(x.d[4:20], make([]int, 16)) {
				t.Errorf("%v is now %v", d, x.d[:20])
			}
		}
	}
}

// TestMemoryOfOneResult changes the divisors of results, and looks at the lists beside them.
func TestMemoryOfOneResult(t *testing.T) {
	for _, d := range []api.Divisor{{0, 1, 1}, {0, 2, 1}, {0, 2, 2}} {
		round, l, _ := parallel.Round(triangle(), 0, d)
		run, s, _, _ := parallel.Run(triangle(), 0, d)
		rounds, script, _ := parallel.Rounds(triangle(), 0, d, 1)
		closed, all, _ := parallel.Closed(triangle(), d)
		before := fmt.Sprint(l, s, script, all)
		for _, x := range []api.Divisor{round, run, rounds, closed} {
			for v := range x {
				x[v] = 99
			}
			_ = append(x, 99, 99, 99)
		}
		if now := fmt.Sprint(l, s, script, all); now != before {
			t.Errorf("%s changes to %s", before, now)
		}
	}
}
