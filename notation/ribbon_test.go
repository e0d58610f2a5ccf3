package notation_test

import (
	"math"
	"slices"
	"strings"
	"testing"

	"sandpile/api"
	"sandpile/notation"
)

// Tests of P9.2.

func TestDigraph(t *testing.T) {
	for _, d := range digraphs() {
		want := written("digraph", ">", d.N, d.Arcs)
		if text, e := notation.Digraph(d); text != want || e != api.OK {
			t.Errorf("%v has the text %q beside the error %d", d, text, e)
		}
		if got, at, e := notation.ReadDigraph(want); !sameDigraph(got, d) || at != 0 || e != api.OK {
			t.Errorf("%q is read as %v, and %d beside the error %d", want, got, at, e)
		}
	}
	for _, x := range []struct {
		d    api.Digraph
		want string
	}{
		{arcs(1), "digraph 1:"}, {arcs(12), "digraph 12:"}, {arcs(2, arc(0, 1, 2), arc(1, 0, 1), arc(1, 1, 50)), "digraph 2: 0>1*2 1>0 1>1*50"}, {arcs(12, arc(11, 0, 1)), "digraph 12: 11>0"},
	} {
		if text, e := notation.Digraph(x.d); text != x.want || e != api.OK {
			t.Errorf("%v has the text %q beside the error %d", x.d, text, e)
		}
	}
}

func TestReadDigraph(t *testing.T) {
	for _, x := range []struct {
		text string
		want api.Digraph
	}{
		{"digraph 1:", arcs(1)}, {" digraph12: ", arcs(12)}, {"digraph 3: 2>0 0>2*3 2>0*1", arcs(3, arc(0, 2, 3), arc(2, 0, 2))}, {"digraph 2:0 > 0*50 1>0 * 25 1>0*25", arcs(2, arc(0, 0, 50), arc(1, 0, 50))}, {"digraph 12: 11>10 10>11", arcs(12, arc(10, 11, 1), arc(11, 10, 1))},
		// The ends of arcs are not exchanged, so these are not the same ones.
		{"digraph 2: 0>1*50 1>0*50", arcs(2, arc(0, 1, 50), arc(1, 0, 50))}, {"digraph 2: 0>1" + strings.Repeat(" ", 4082), arcs(2, arc(0, 1, 1))},
	} {
		if got, at, e := notation.ReadDigraph(x.text); !sameDigraph(got, x.want) || at != 0 || e != api.OK {
			t.Errorf("%.100q is read as %v, and %d beside the error %d", x.text, got, at, e)
		}
	}
	for _, x := range []refusal{
		{"", 0, api.ErrSyntax}, {"graph 2: 0-1", 0, api.ErrSyntax}, {"digraph 2: 0-1", 12, api.ErrSyntax}, {"digraph", 7, api.ErrSyntax}, {"digraph 2", 9, api.ErrSyntax}, {"digraph 2 :0>", 13, api.ErrSyntax}, {"digraph 2: 0>1 ;", 15, api.ErrSyntax}, {"digraph 2: 0>1>0", 14, api.ErrSyntax}, {"digraph 2: 0>1*", 15, api.ErrSyntax}, {"digraph 2: 0", 12, api.ErrSyntax},
		{"digraph 0:", 8, api.ErrRange}, {"digraph 13:", 8, api.ErrRange}, {"digraph 2: 0>2", 13, api.ErrRange}, {"digraph 2: 2>0", 11, api.ErrRange}, {"digraph 2: 0>1*0", 15, api.ErrRange}, {"digraph 2: 0>1*51", 15, api.ErrRange}, {"digraph 2: 0>9999999999999999999", 13, api.ErrRange},
		{"digraph 2: 0>1*50 1>0*50 0>1", 25, api.ErrMany}, {"digraph 2: 1>0*26 0>1 1>0*25 x", 22, api.ErrMany}, {"digraph 2: 1>0*26 1>0*51", 22, api.ErrRange}, {"digraph 1: 0>0*50 0>0", 18, api.ErrMany},
		{"digraph 0: 0>00", 13, api.ErrForm}, {"digraph 0: !", 11, api.ErrSyntax}, {"digraph 1:" + strings.Repeat(" ", 4087), 0, api.ErrLong},
	} {
		if got, at, e := notation.ReadDigraph(x.text); !sameDigraph(got, api.Digraph{}) || at != x.at || e != x.e {
			t.Errorf("%.100q is read as %v, and %d beside the error %d, want %d beside %d", x.text, got, at, e, x.at, x.e)
		}
	}
}

func TestRibbon(t *testing.T) {
	for _, r := range ribbonGraphs() {
		want := writtenRibbon(r)
		if text, e := notation.Ribbon(r); text != want || e != api.OK {
			t.Errorf("%v has the text %q beside the error %d", r, text, e)
		}
		if got, at, e := notation.ReadRibbon(want); !sameRibbon(got, r) || at != 0 || e != api.OK {
			t.Errorf("%q is read as %v, and %d beside the error %d", want, got, at, e)
		}
	}
	for _, x := range []struct {
		r    api.Ribbon
		want string
	}{
		{around(edges(2, edge(0, 1, 2)), []int{0, 2}, []int{3, 1}), "ribbon 2: 0-1*2 ; 0 2 / 3 1"}, {around(edges(1), nil), "ribbon 1: ;"}, {around(edges(3), nil, []int{}, nil), "ribbon 3: ; / /"}, {around(edges(2, edge(1, 1, 1)), nil, []int{0, 1}), "ribbon 2: 1-1 ; / 0 1"}, {around(edges(2, edge(0, 0, 1)), []int{1, 0}, nil), "ribbon 2: 0-0 ; 1 0 /"}, {around(edges(3, edge(0, 2, 1)), []int{0}, nil, []int{1}), "ribbon 3: 0-2 ; 0 / / 1"},
		// The lists need not be those of a right ribbon graph.
		{around(edges(2, edge(0, 1, 1)), []int{1, 1, 0}, []int{1}), "ribbon 2: 0-1 ; 1 1 0 / 1"}, {around(edges(2, edge(0, 1, 1)), nil, nil), "ribbon 2: 0-1 ; /"},
	} {
		if text, e := notation.Ribbon(x.r); text != x.want || e != api.OK {
			t.Errorf("%v has the text %q beside the error %d", x.r, text, e)
		}
	}
}

func TestRibbonErrors(t *testing.T) {
	for _, x := range wrongGraphs() {
		for _, lists := range [][][]int{nil, {{0}}, {{-1}, {99}, nil}} {
			if text, e := notation.Ribbon(around(x.g, lists...)); text != "" || e != x.e {
				t.Errorf("%.100v has the text %q beside the error %d, want %d", x.g, text, e, x.e)
			}
		}
	}
	loops := edges(1, edge(0, 0, 6))
	two := edges(2, edge(0, 1, 1))
	for i, x := range []struct {
		r api.Ribbon
		e api.Errno
	}{
		{around(two), api.ErrShape}, {around(two, []int{0}), api.ErrShape}, {around(two, nil, nil, nil), api.ErrShape}, {around(edges(1)), api.ErrShape}, {around(two, []int{9}), api.ErrShape}, {around(two, nil, nil, []int{-1}), api.ErrShape},
		{around(two, []int{0}, []int{2}), api.ErrRange}, {around(two, []int{-1}, nil), api.ErrRange}, {around(two, nil, []int{math.MaxInt}), api.ErrRange}, {around(two, nil, []int{math.MinInt}), api.ErrRange}, {around(edges(1), []int{0}), api.ErrRange}, {around(edges(1, edge(0, 0, 50)), []int{100}), api.ErrRange}, {around(edges(1, edge(0, 0, 50)), []int{99}), api.OK},
		// Texts of MaxText bytes and more: 17 bytes without half-edges, 3 of the half-edge 10, and 2 of each other one.
		{around(loops, append(make([]int, 2038), 10)), api.OK}, {around(loops, append(make([]int, 2037), 10, 10)), api.ErrLong}, {around(loops, make([]int, 2039)), api.OK}, {around(loops, make([]int, 2040)), api.ErrLong}, {around(loops, make([]int, 100000)), api.ErrLong}, {around(loops, append(make([]int, 100000), 12)), api.ErrRange}, {around(loops, make([]int, 100000), nil), api.ErrShape},
	} {
		text, e := notation.Ribbon(x.r)
		if e != x.e || (text == "") != (e != api.OK) || len(text) > api.MaxText {
			t.Errorf("case %d has a text of %d bytes beside the error %d, want %d", i, len(text), e, x.e)
		}
		if e != api.OK {
			continue
		}
		if got, at, e := notation.ReadRibbon(text); !sameRibbon(got, x.r) || at != 0 || e != api.OK {
			t.Errorf("case %d is read as %.100v, and %d beside the error %d", i, got, at, e)
		}
	}
	if text, _ := notation.Ribbon(around(loops, append(make([]int, 2038), 10))); len(text) != api.MaxText {
		t.Errorf("a text of %d bytes", len(text))
	}
}

func TestReadRibbon(t *testing.T) {
	for _, x := range []struct {
		text string
		want api.Ribbon
	}{
		{"ribbon 2: 0-1*2 ; 0 2 / 3 1", around(edges(2, edge(0, 1, 2)), []int{0, 2}, []int{3, 1})}, {"ribbon2:0-1*2;0 2/3 1", around(edges(2, edge(0, 1, 2)), []int{0, 2}, []int{3, 1})}, {"ribbon 1: ;", around(edges(1), nil)}, {" ribbon 3:;// ", around(edges(3), nil, nil, nil)}, {"ribbon 2: 0-1*1 ; /", around(edges(2, edge(0, 1, 1)), nil, nil)}, {"ribbon 2: 0-1 ; / 1 1 1", around(edges(2, edge(0, 1, 1)), nil, []int{1, 1, 1})}, {"ribbon 1: 0 - 0 * 50 ; 99", around(edges(1, edge(0, 0, 50)), []int{99})}, {"ribbon 12: 11-11; ///////////", around(edges(12, edge(11, 11, 1)), make([][]int, 12)...)}, {"ribbon 3: 0-0 0-1 0-2*3 1-1 1-2;9 / 13/ 0", around(edges(3, edge(0, 0, 1), edge(0, 1, 1), edge(0, 2, 3), edge(1, 1, 1), edge(1, 2, 1)), []int{9}, []int{13}, []int{0})},
		{"ribbon 1: 0-0;" + strings.Repeat(" 1", 2041), around(edges(1, edge(0, 0, 1)), slices.Repeat([]int{1}, 2041))},
	} {
		if got, at, e := notation.ReadRibbon(x.text); !sameRibbon(got, x.want) || at != 0 || e != api.OK {
			t.Errorf("%.100q is read as %v, and %d beside the error %d", x.text, got, at, e)
		}
	}
}

func TestReadRibbonErrors(t *testing.T) {
	for _, x := range []refusal{
		{"", 0, api.ErrSyntax}, {"graph 1:", 0, api.ErrSyntax}, {"ribbon 1:", 9, api.ErrSyntax}, {"ribbon 2: 0-1", 13, api.ErrSyntax}, {"ribbon 2: 0-1 0 / 1", 16, api.ErrSyntax}, {"ribbon 2: 0-1 / 1", 14, api.ErrSyntax}, {"ribbon 2: 0>1 ; 0 / 1", 11, api.ErrSyntax}, {"ribbon 1; 0", 8, api.ErrSyntax}, {"ribbon 2: 0-1 ; 0 ; 1", 18, api.ErrSyntax}, {"ribbon 2: 0-1 ; 0 / -1", 20, api.ErrSyntax}, {"ribbon 2: 0-1 ; 0 / x", 20, api.ErrSyntax}, {"ribbon 2: 0-1 ; 0-1", 17, api.ErrSyntax}, {"ribbon 2: 0-1 ; 0*1", 17, api.ErrSyntax},
		{"ribbon 0: ;", 7, api.ErrRange}, {"ribbon 13: ;", 7, api.ErrRange}, {"ribbon 2: 0-2 ; /", 12, api.ErrRange}, {"ribbon 2: 2-2 ; /", 10, api.ErrRange}, {"ribbon 2: 0-1*0 ; /", 14, api.ErrRange}, {"ribbon 2: 0-1*51 ; /", 14, api.ErrRange},
		// Half-edges are numbered by all single edges.
		{"ribbon 2: 0-1 ; 2 / 1", 16, api.ErrRange}, {"ribbon 2: 0-1*2 ; 0 2 / 3 4", 26, api.ErrRange}, {"ribbon 1: ; 0", 12, api.ErrRange}, {"ribbon 2: 0-1 ; 9999999999999999999", 16, api.ErrRange},
		// Edges out of order, several times, and with their ends in the other order, are looked at behind their Mult.
		{"ribbon 2: 1-0 ; /", 10, api.ErrOrder}, {"ribbon 2: 0-1 0-1 ; /", 14, api.ErrOrder}, {"ribbon 2: 0-1 0-0 ; /", 14, api.ErrOrder}, {"ribbon 3: 1-2 0-1 ; / /", 14, api.ErrOrder}, {"ribbon 3: 0-1*50 0-1*50 ; / /", 17, api.ErrOrder}, {"ribbon 3: 0-1 2-1 ; / /", 14, api.ErrOrder}, {"ribbon 2: 1-0 x", 10, api.ErrOrder}, {"ribbon 2: 1-0*51", 14, api.ErrRange}, {"ribbon 2: 1-0*x", 14, api.ErrSyntax}, {"ribbon 2: 1-0*", 14, api.ErrSyntax}, {"ribbon 2: 1-0", 10, api.ErrOrder}, {"ribbon 3: 0-2 0-1*3 5-6", 14, api.ErrOrder},
		// Too few lists, and too many.
		{"ribbon 2: 0-1 ; 0", 17, api.ErrShape}, {"ribbon 2: ;", 11, api.ErrShape}, {"ribbon 2: ;  ", 13, api.ErrShape}, {"ribbon 2: 0-1 ; 0 / 1 / 0", 22, api.ErrShape}, {"ribbon 1: ; /", 12, api.ErrShape}, {"ribbon 1: ; / x", 12, api.ErrShape}, {"ribbon 1: 0-0 ; 2 /", 16, api.ErrRange}, {"ribbon 3: ; / / /", 16, api.ErrShape}, {"ribbon 3: ; /", 13, api.ErrShape}, {"ribbon 3: ; / x", 14, api.ErrSyntax},
		{"ribbon 0: ; 00", 12, api.ErrForm}, {"ribbon 0: _", 10, api.ErrSyntax}, {"ribbon 1:;" + strings.Repeat(" ", 4087), 0, api.ErrLong},
	} {
		if got, at, e := notation.ReadRibbon(x.text); !sameRibbon(got, api.Ribbon{}) || at != x.at || e != x.e {
			t.Errorf("%.100q is read as %v, and %d beside the error %d, want %d beside %d", x.text, got, at, e, x.at, x.e)
		}
	}
}
