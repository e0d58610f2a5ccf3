package schedule_test

import (
	"fmt"
	"math"
	"math/rand"
	"slices"
	"testing"

	"sandpile/api"
	"sandpile/chips"
	"sandpile/firing"
	"sandpile/schedule"
	"sandpile/stabilize"
)

// Tests of P21.3, and of P1 for package schedule.

// TestAnyChoice compares settlings and drifts with stabilizations, also with those that have an error.
func TestAnyChoice(t *testing.T) {
	r := rand.New(rand.NewSource(224))
	errors := map[api.Errno]int{}
	for _, g := range samples() {
		for i := range 5 {
			q, top := r.Intn(g.N), []int{5, 50, 500}[i%3]
			if r.Intn(20) == 0 {
				top = most
			}
			d := some(r, g, q, top)
			if i < 2 {
				d[q] = most - r.Intn(100)
			}
			want, script, error := stabilize.Stabilize(g, q, d)
			picks := somePicks(r)
			got, s, e := schedule.Settle(g, q, d, picks)
			agrees(t, "Settle", []any{g, q, d, picks}, got, e, want, error)
			agrees(t, "Settle, fired,", []any{g, q, d, picks}, s, e, script, error)
			got, s, _, e = schedule.Drift(g, q, d, picks)
			errors[e]++
			if e != api.ErrLimit {
				agrees(t, "Drift", []any{g, q, d, picks}, got, e, want, error)
				agrees(t, "Drift, fired,", []any{g, q, d, picks}, s, e, script, error)
			}
		}
	}
	if errors[api.OK] < 50 || errors[api.ErrLimit] < 10 || errors[api.ErrLarge] < 20 {
		t.Errorf("the drifts end with the errors %v", errors)
	}
}

// TestDriftPicks compares the number of picks of drifts with what there may be.
func TestDriftPicks(t *testing.T) {
	r := rand.New(rand.NewSource(225))
	within, beyond := 0, 0
	for _, g := range samples()[:30] {
		for _, top := range []int{100, 400000} {
			q := r.Intn(g.N)
			d, want := some(r, g, q, top), api.OK
			n := picksOf(g, q, d)
			if n > api.MaxFirings {
				want = api.ErrLimit
				beyond++
			} else {
				within++
			}
			if _, _, _, e := schedule.Drift(g, q, d, somePicks(r)); e != want {
				t.Errorf("%v drifts on %v with the sink %d by %d picks, and the error is %d", d, g, q, n, e)
			}
		}
	}
	if within < 20 || beyond < 10 {
		t.Errorf("%d drifts have as many picks as there may be, and %d more", within, beyond)
	}
}

// TestTimeOfDrops lets the same chips fall at other times, and stabilizes what becomes of it.
func TestTimeOfDrops(t *testing.T) {
	r := rand.New(rand.NewSource(226))
	for _, g := range samples() {
		for range 6 {
			q := r.Intn(g.N)
			d, l := some(r, g, q, 300), someEvents(r, g)
			all := slices.Clone(d)
			for _, x := range l {
				if x.Kind == schedule.EventDrop {
					all[x.Value]++
				}
			}
			want, script, _ := stabilize.Stabilize(g, q, all)
			for range 3 {
				r.Shuffle(len(l), func(i, j int) { l[i], l[j] = l[j], l[i] })
				behind, before, _ := schedule.Run(g, q, d, l)
				got, after, e := stabilize.Stabilize(g, q, behind)
				agrees(t, "Stabilize", []any{g, q, d, l}, got, e, want, api.OK)
				sum, e := chips.Add(api.Divisor(before), api.Divisor(after))
				agrees(t, "Stabilize, fired,", []any{g, q, d, l}, api.Script(sum), e, script, api.OK)
			}
		}
	}
}

// TestTraceIsScript counts what has fired in runs, and plays it move by move where no chips fall.
func TestTraceIsScript(t *testing.T) {
	r := rand.New(rand.NewSource(227))
	played := 0
	for _, g := range samples() {
		for i := range 6 {
			q := r.Intn(g.N)
			d, l := some(r, g, q, 300), someEvents(r, g)
			if i < 3 {
				l = slices.DeleteFunc(l, func(x schedule.Event) bool { return x.Kind == schedule.EventDrop })
			}
			behind, script, _ := schedule.Run(g, q, d, l)
			trace, _ := schedule.Trace(g, q, d, l)
			if len(trace) != len(l) {
				t.Errorf("%d events have a trace of %d vertices", len(l), len(trace))
			}
			moves := slices.DeleteFunc(trace, func(v int) bool { return v < 0 })
			count, e := firing.Count(g, moves)
			agrees(t, "Count", []any{g, q, d, l}, count, e, script, api.OK)
			all := slices.Clone(d)
			for _, x := range l {
				if x.Kind == schedule.EventDrop {
					all[x.Value]++
				}
			}
			applied, e := firing.Apply(g, all, script)
			agrees(t, "Apply", []any{g, q, d, l}, applied, e, behind, api.OK)
			if i < 3 {
				got, _, e := firing.Play(g, d, moves)
				agrees(t, "Play", []any{g, q, d, l}, got, e, behind, api.OK)
				played += len(moves)
			}
		}
	}
	if played < 2000 {
		t.Errorf("%d moves are played", played)
	}
}

// TestTotal calls every function with all kinds of arguments: a panic fails the test, and beside an error everything is zero.
func TestTotal(t *testing.T) {
	r := rand.New(rand.NewSource(228))
	ints := []int{math.MinInt, -most - 1, -most, -2, -1, 0, 0, 0, 1, 1, 1, 2, 3, 4, 5, 11, 12, 13, 50, most, most + 1, math.MaxInt}
	any := func() int { return ints[r.Intn(len(ints))] }
	right := samples()
	for range 3000 {
		g := right[r.Intn(len(right))]
		q := r.Intn(g.N)
		x := arguments{g, q, some(r, g, q, 1+r.Intn(most/1000)), someEvents(r, g), somePicks(r)}
		if r.Intn(2) == 0 {
			x.l = append(x.l, schedule.Event{Kind: any(), Value: any()})
			x.picks = append(x.picks, any())
		}
		if r.Intn(3) == 0 {
			x.q = any()
			x.d = make(api.Divisor, r.Intn(6))
			for v := range x.d {
				x.d[v] = any()
			}
		}
		if r.Intn(4) == 0 {
			x.g = edges(any())
			for range r.Intn(4) {
				x.g.Edges = append(x.g.Edges, edge(any(), any(), any()))
			}
		}
		got := x.calls()
		for name, e := range got.e {
			if e != api.OK && !got.isZero(name) {
				t.Errorf("%s of %v has a result beside the error %d", name, x, e)
			}
		}
	}
}

// spare returns a list with spare capacity, in which nothing may be written either.
func spare[T any](l ...T) []T { return append(make([]T, 0, 20), l...) }

// isSpare tells whether a list and its spare capacity are as they were.
func isSpare[T comparable](l, want []T) bool { return slices.Equal(l[:20], spare(want...)[:20]) }

// TestMemory changes results, and looks at the arguments and at other results.
func TestMemory(t *testing.T) {
	l, picks := []schedule.Event{drop(0), pick(3), drop(1), pick(0), pick(9)}, []int{3, 0, 7}
	for _, d := range [][]int{{9, 8, 7, 6}, {0, 2, 2, 0}, {-3, 0, 0, 0}, {0, 1, 2, 0}} {
		for _, n := range []int{0, 5} {
			x := arguments{edges(4, spare(looped().Edges...)...), 0, spare(d...), spare(l[:n]...), spare(picks...)}
			first, second := x.calls(), x.calls()
			before := fmt.Sprint(second)
			for _, list := range first.lists {
				for i := range list {
					list[i] = 99
				}
				_ = append(list, 99, 99)
			}
			if now := fmt.Sprint(second); now != before {
				t.Errorf("%s changes to %s with another result", before, now)
			}
			if again := fmt.Sprint(x.calls()); again != before {
				t.Errorf("%s instead of %s", again, before)
			}
			if !isSpare(x.g.Edges, looped().Edges) || !isSpare(x.d, d) || !isSpare(x.l, l[:n]) || !isSpare(x.picks, picks) {
				t.Errorf("the arguments are now %v", x)
			}
		}
	}
}

// TestMemoryOfOneResult changes the divisors of results, and looks at the scripts beside them.
func TestMemoryOfOneResult(t *testing.T) {
	for _, d := range []api.Divisor{{0, 1, 1}, {0, 2, 1}} {
		run, first, _ := schedule.Run(triangle(), 0, d, []schedule.Event{pick(0)})
		settled, second, _ := schedule.Settle(triangle(), 0, d, []int{0})
		drifted, third, _, _ := schedule.Drift(triangle(), 0, d, []int{0})
		before := fmt.Sprint(first, second, third)
		for _, x := range []api.Divisor{run, settled, drifted} {
			for v := range x {
				x[v] = 99
			}
			_ = append(x, 99, 99, 99)
		}
		if now := fmt.Sprint(first, second, third); now != before {
			t.Errorf("%s changes to %s", before, now)
		}
	}
}
