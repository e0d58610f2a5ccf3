package schedule_test

import (
	"math"
	"math/rand"
	"slices"
	"testing"

	"sandpile/api"
	"sandpile/schedule"
)

// Tests of P21.1, and of the errors that all functions return first.

// TestFirstErrors calls the functions with what stabilize.Check does not accept: this error comes before those of schedules and of picks.
func TestFirstErrors(t *testing.T) {
	zero := api.Divisor{0, 0, 0}
	for _, x := range []struct {
		g api.Graph
		q int
		d api.Divisor
		e api.Errno
	}{
		{api.Graph{}, 0, nil, api.ErrRange}, {edges(13), 0, make(api.Divisor, 13), api.ErrRange}, {edges(math.MinInt), 0, nil, api.ErrRange}, {edges(3, edge(0, 3, 1)), 0, zero, api.ErrRange}, {edges(3, edge(0, 1, 51)), 0, zero, api.ErrRange}, {edges(3, edge(0, 1, 0)), 9, nil, api.ErrRange}, {edges(3, edge(1, 0, 1)), 0, zero, api.ErrOrder}, {edges(3, edge(0, 1, 1), edge(0, 1, 1)), 9, nil, api.ErrOrder},
		{edges(2), 0, api.Divisor{0, 0}, api.ErrParted}, {edges(3, edge(0, 1, 1)), 9, nil, api.ErrParted}, {edges(3, edge(1, 2, 1)), 0, api.Divisor{-1, -1, -1}, api.ErrParted},
		{triangle(), -1, zero, api.ErrRange}, {triangle(), 3, nil, api.ErrRange}, {triangle(), math.MaxInt, zero, api.ErrRange},
		{triangle(), 0, nil, api.ErrShape}, {triangle(), 0, api.Divisor{0, 0}, api.ErrShape}, {triangle(), 0, api.Divisor{0, -1, 0, 0}, api.ErrShape}, {triangle(), 0, api.Divisor{0, most + 1, 0}, api.ErrRange}, {triangle(), 0, api.Divisor{-most - 1, 0, 0}, api.ErrRange}, {triangle(), 0, api.Divisor{0, math.MaxInt, 0}, api.ErrRange}, {triangle(), 0, api.Divisor{math.MinInt, 0, 0}, api.ErrRange},
		{triangle(), 0, api.Divisor{0, -1, 0}, api.ErrRange}, {triangle(), 2, api.Divisor{-1, 0, 0}, api.ErrRange}, {triangle(), 1, api.Divisor{most, most, -most}, api.ErrRange}, {triangle(), 0, api.Divisor{-most, 0, 0}, api.OK}, {edges(1), 0, api.Divisor{-most}, api.OK},
	} {
		for _, l := range [][]schedule.Event{nil, {drop(0)}, {{Kind: 7}}, {pick(-1)}, {drop(99)}, make([]schedule.Event, 5000)} {
			for _, picks := range [][]int{nil, {0}, {-1}, make([]int, 5000)} {
				if x.e == api.OK && len(picks) != 1 {
					continue
				}
				got := arguments{x.g, x.q, x.d, l, picks}.calls()
				if x.e != api.OK {
					got.expect(t, withSink(), []any{x.g, x.q, x.d}, x.e)
				} else if len(l) == 1 && l[0] == drop(0) && picks[0] == 0 {
					got.expect(t, withSink(), []any{x.g, x.q, x.d}, api.OK)
				}
			}
		}
	}
}

// TestCheckGraph checks schedules for graphs: those that are not connected have schedules, too.
func TestCheckGraph(t *testing.T) {
	for _, x := range []struct {
		g api.Graph
		e api.Errno
	}{
		{api.Graph{}, api.ErrRange}, {edges(13), api.ErrRange}, {edges(3, edge(0, 3, 1)), api.ErrRange}, {edges(3, edge(0, 1, 51)), api.ErrRange}, {edges(3, edge(1, 0, 1)), api.ErrOrder}, {edges(3, edge(0, 1, 1), edge(0, 1, 1)), api.ErrOrder},
		{edges(2), api.OK}, {edges(12), api.OK}, {edges(3, edge(1, 2, 1)), api.OK}, {edges(1), api.OK}, {triangle(), api.OK}, {full(12, 50), api.OK},
	} {
		for _, l := range [][]schedule.Event{nil, {pick(5)}, {drop(0), pick(0)}} {
			if e := schedule.Check(x.g, l); e != x.e {
				t.Errorf("%v on %v has the error %d, want %d", l, x.g, e, x.e)
			}
		}
		if x.e == api.OK {
			continue
		}
		// This error comes before those of the list.
		for _, l := range [][]schedule.Event{{{Kind: 7}}, {pick(-1)}, {drop(-1)}, make([]schedule.Event, 4097)} {
			if e := schedule.Check(x.g, l); e != x.e {
				t.Errorf("%s on %v has the error %d, want %d", short(l), x.g, e, x.e)
			}
		}
	}
}

// TestCheck has schedules, and lists that are none.
func TestCheck(t *testing.T) {
	ok := func(n int) []schedule.Event { return slices.Repeat([]schedule.Event{pick(1), drop(2)}, n/2+1)[:n] }
	for _, x := range []struct {
		l []schedule.Event
		e api.Errno
	}{
		{nil, api.OK}, {[]schedule.Event{}, api.OK}, {[]schedule.Event{pick(0)}, api.OK}, {[]schedule.Event{pick(3)}, api.OK}, {[]schedule.Event{pick(math.MaxInt)}, api.OK}, {[]schedule.Event{drop(0), drop(1), drop(2)}, api.OK},
		{ok(4095), api.OK}, {ok(4096), api.OK}, {ok(4097), api.ErrMany}, {ok(10000), api.ErrMany}, {append(ok(4095), pick(-1)), api.ErrRange},
		// Too many events come before what is wrong with one.
		{append(ok(4096), pick(-1)), api.ErrMany}, {append([]schedule.Event{{Kind: 2}}, ok(4096)...), api.ErrMany},
		{[]schedule.Event{pick(-1)}, api.ErrRange}, {[]schedule.Event{pick(math.MinInt)}, api.ErrRange}, {[]schedule.Event{drop(-1)}, api.ErrRange}, {[]schedule.Event{drop(3)}, api.ErrRange}, {[]schedule.Event{drop(4)}, api.ErrRange}, {[]schedule.Event{drop(math.MinInt)}, api.ErrRange}, {[]schedule.Event{drop(math.MaxInt)}, api.ErrRange},
		{[]schedule.Event{{Kind: 2, Value: 0}}, api.ErrArg}, {[]schedule.Event{{Kind: -1, Value: 0}}, api.ErrArg}, {[]schedule.Event{{Kind: math.MinInt, Value: 1}}, api.ErrArg}, {[]schedule.Event{{Kind: math.MaxInt, Value: 1}}, api.ErrArg},
		// The Kind of an event comes before its Value, and an event before those behind it.
		{[]schedule.Event{{Kind: 2, Value: -1}}, api.ErrArg}, {[]schedule.Event{{Kind: -1, Value: 3}}, api.ErrArg}, {[]schedule.Event{{Kind: 2, Value: 0}, pick(-1)}, api.ErrArg}, {[]schedule.Event{pick(-1), {Kind: 2, Value: 0}}, api.ErrRange}, {[]schedule.Event{drop(3), {Kind: 2, Value: 3}}, api.ErrRange}, {[]schedule.Event{drop(0), pick(0), {Kind: 5, Value: 5}, drop(3)}, api.ErrArg}, {[]schedule.Event{drop(0), pick(0), drop(3), {Kind: 5, Value: 5}}, api.ErrRange},
	} {
		for _, d := range []api.Divisor{{0, 0, 0}, {-9, 2, 2}} {
			arguments{triangle(), 0, d, x.l, []int{0}}.calls().expect(t, withEvents(), x.l, x.e)
		}
		// Where there would be too many chips in the end, too.
		if x.e != api.OK {
			arguments{triangle(), 0, api.Divisor{most, most, most}, x.l, nil}.calls().expect(t, withEvents(), x.l, x.e)
		}
	}
	for _, g := range samples() {
		for v := range g.N {
			if e := schedule.Check(g, []schedule.Event{drop(v), pick(g.N)}); e != api.OK {
				t.Errorf("a drop at %d on %v has the error %d", v, g, e)
			}
		}
		for _, v := range outside(g.N) {
			if e := schedule.Check(g, []schedule.Event{drop(v)}); e != api.ErrRange {
				t.Errorf("a drop at %d on %v has the error %d", v, g, e)
			}
		}
	}
}

func TestRunAndTrace(t *testing.T) {
	r := rand.New(rand.NewSource(221))
	fired, still := 0, 0
	for _, g := range samples() {
		for range 12 {
			q := r.Intn(g.N)
			d, l := some(r, g, q, 200), someEvents(r, g)
			x := begin(g, q, d)
			want := x.play(l)
			got, s, e := schedule.Run(g, q, d, l)
			agrees(t, "Run", []any{g, q, d, l}, got, e, x.d, api.OK)
			agrees(t, "Run, fired,", []any{g, q, d, l}, s, e, x.s, api.OK)
			trace, e := schedule.Trace(g, q, d, l)
			agrees(t, "Trace", []any{g, q, d, l}, trace, e, want, api.OK)
			for i, v := range want {
				if v >= 0 {
					fired++
				} else if l[i].Kind == schedule.EventPick {
					still++
				}
			}
		}
	}
	if fired < 5000 || still < 1000 {
		t.Errorf("%d picks let a vertex fire, and %d none", fired, still)
	}
}

func TestRunByHand(t *testing.T) {
	for _, x := range []struct {
		g     api.Graph
		q     int
		d     api.Divisor
		l     []schedule.Event
		want  api.Divisor
		s     api.Script
		trace []int
	}{
		{triangle(), 0, api.Divisor{0, 2, 2}, []schedule.Event{pick(3), drop(1), pick(0)}, api.Divisor{2, 2, 1}, api.Script{0, 1, 1}, []int{2, -1, 1}}, {triangle(), 0, api.Divisor{0, 2, 2}, nil, api.Divisor{0, 2, 2}, api.Script{0, 0, 0}, nil},
		// While nothing is unstable, picks change nothing; the sink never fires.
		{triangle(), 0, api.Divisor{9, 1, 1}, []schedule.Event{pick(0), pick(1), pick(math.MaxInt)}, api.Divisor{9, 1, 1}, api.Script{0, 0, 0}, []int{-1, -1, -1}}, {triangle(), 0, api.Divisor{0, 2, 0}, []schedule.Event{pick(0), pick(0)}, api.Divisor{1, 0, 1}, api.Script{0, 1, 0}, []int{1, -1}},
		// Picks that are greater than the number of unstable vertices.
		{triangle(), 1, api.Divisor{2, 0, 2}, []schedule.Event{pick(1000000)}, api.Divisor{0, 1, 3}, api.Script{1, 0, 0}, []int{0}}, {triangle(), 1, api.Divisor{2, 0, 2}, []schedule.Event{pick(math.MaxInt)}, api.Divisor{3, 1, 0}, api.Script{0, 0, 1}, []int{2}}, {fork(1, 1), 0, api.Divisor{0, 5, 5}, []schedule.Event{pick(2), pick(3), pick(1), pick(4)}, api.Divisor{4, 3, 3}, api.Script{0, 2, 2}, []int{1, 2, 2, 1}},
		// Drops at the sink, and at vertices that become unstable.
		{triangle(), 0, api.Divisor{-1, 1, 1}, []schedule.Event{drop(0), drop(0), drop(0), pick(0)}, api.Divisor{2, 1, 1}, api.Script{0, 0, 0}, []int{-1, -1, -1, -1}}, {triangle(), 0, api.Divisor{0, 1, 1}, []schedule.Event{pick(0), drop(2), pick(1), pick(1)}, api.Divisor{2, 0, 1}, api.Script{0, 1, 1}, []int{-1, -1, 2, 1}},
		// One vertex, loops and parallel edges.
		{edges(1), 0, api.Divisor{-2}, []schedule.Event{pick(0), drop(0), pick(5), drop(0)}, api.Divisor{0}, api.Script{0}, []int{-1, -1, -1, -1}}, {edges(1, edge(0, 0, 3)), 0, api.Divisor{7}, []schedule.Event{pick(0), drop(0)}, api.Divisor{8}, api.Script{0}, []int{-1, -1}},
		{looped(), 0, api.Divisor{0, 2, 0, 0}, []schedule.Event{pick(0), drop(3), pick(0), drop(1), pick(0)}, api.Divisor{2, 0, 2, 0}, api.Script{0, 1, 0, 1}, []int{-1, -1, 3, -1, 1}}, {pair(50), 1, api.Divisor{99, 0}, []schedule.Event{pick(0), pick(0), drop(0), pick(0)}, api.Divisor{0, 100}, api.Script{2, 0}, []int{0, -1, -1, 0}},
	} {
		what := []any{x.g, x.q, x.d, x.l}
		d, s, e := schedule.Run(x.g, x.q, x.d, x.l)
		agrees(t, "Run", what, d, e, x.want, api.OK)
		agrees(t, "Run, fired,", what, s, e, x.s, api.OK)
		trace, e := schedule.Trace(x.g, x.q, x.d, x.l)
		agrees(t, "Trace", what, trace, e, x.trace, api.OK)
	}
}

// TestRunRange has as many chips as there may be in the end, and one more, and more on the way; there is a trace of all these runs.
func TestRunRange(t *testing.T) {
	drops := func(n, v int) []schedule.Event { return slices.Repeat([]schedule.Event{drop(v)}, n) }
	for _, x := range []struct {
		g    api.Graph
		q    int
		d    api.Divisor
		l    []schedule.Event
		want api.Divisor
	}{
		// At the sink.
		{triangle(), 0, api.Divisor{most - 1, 0, 0}, drops(1, 0), api.Divisor{most, 0, 0}}, {triangle(), 0, api.Divisor{most, 0, 0}, drops(1, 0), nil}, {triangle(), 0, api.Divisor{most, 0, 0}, nil, api.Divisor{most, 0, 0}}, {triangle(), 0, api.Divisor{most - 1, 2, 0}, []schedule.Event{pick(0)}, api.Divisor{most, 0, 1}}, {triangle(), 0, api.Divisor{most, 2, 0}, []schedule.Event{pick(0)}, nil}, {triangle(), 0, api.Divisor{-most, 0, 0}, drops(4096, 0), api.Divisor{4096 - most, 0, 0}}, {pair(50), 0, api.Divisor{most - 50, 99}, []schedule.Event{pick(0)}, api.Divisor{most, 49}}, {pair(50), 0, api.Divisor{most - 49, 99}, []schedule.Event{pick(0)}, nil}, {edges(1), 0, api.Divisor{most}, drops(1, 0), nil}, {edges(1), 0, api.Divisor{most - 4096}, drops(4096, 0), api.Divisor{most}}, {edges(1), 0, api.Divisor{most - 4095}, drops(4096, 0), nil},
		// Elsewhere.
		{triangle(), 0, api.Divisor{0, most - 1, 0}, drops(1, 1), api.Divisor{0, most, 0}}, {triangle(), 0, api.Divisor{0, most, 0}, drops(1, 1), nil}, {triangle(), 0, api.Divisor{0, 2, most - 1}, []schedule.Event{pick(0)}, api.Divisor{1, 0, most}}, {triangle(), 0, api.Divisor{0, 2, most}, []schedule.Event{pick(0)}, nil},
		// More on the way, but not in the end.
		{triangle(), 0, api.Divisor{0, most, 0}, append(drops(1, 1), pick(0)), api.Divisor{1, most - 1, 1}}, {triangle(), 0, api.Divisor{0, 2, most}, []schedule.Event{pick(0), pick(0)}, api.Divisor{2, 1, most - 1}}, {triangle(), 0, api.Divisor{0, most, 0}, append(drops(3, 1), pick(0)), nil}, {triangle(), 0, api.Divisor{0, most, 0}, append(drops(2, 1), pick(0)), api.Divisor{1, most, 1}},
	} {
		what := []any{x.g, x.q, x.d, len(x.l)}
		run := begin(x.g, x.q, x.d)
		trace := run.play(x.l)
		script, error := run.s, api.OK
		if x.want == nil {
			script, error = nil, api.ErrLarge
		}
		d, s, e := schedule.Run(x.g, x.q, x.d, x.l)
		agrees(t, "Run", what, d, e, x.want, error)
		agrees(t, "Run, fired,", what, s, e, script, error)
		got, e := schedule.Trace(x.g, x.q, x.d, x.l)
		agrees(t, "Trace", what, got, e, trace, api.OK)
	}
}
