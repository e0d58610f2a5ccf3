package notation_test

import (
	"math"
	"slices"
	"strings"
	"testing"

	"sandpile/api"
	"sandpile/notation"
)

// Tests of P9.1: Check and lists.

func TestCheck(t *testing.T) {
	for _, d := range digraphs() {
		if e := notation.Check(d); e != api.OK {
			t.Errorf("%v has the error %d", d, e)
		}
	}
	for _, x := range wrongDigraphs() {
		if e := notation.Check(x.d); e != x.e {
			t.Errorf("%.200v has the error %d, want %d", x.d, e, x.e)
		}
		if text, e := notation.Digraph(x.d); text != "" || e != x.e {
			t.Errorf("%.200v has the text %q beside the error %d, want %d", x.d, text, e, x.e)
		}
	}
}

// TestCheckEachArc puts every arc behind every other one, and takes numbers around the limits.
func TestCheckEachArc(t *testing.T) {
	for _, a := range []int{-1, 0, 1, 2, 3} {
		for _, b := range []int{-1, 0, 1, 2, 3} {
			for _, mult := range []int{-1, 0, 1, 50, 51} {
				want := api.OK
				if a < 0 || a > 2 || b < 0 || b > 2 || mult < 1 || mult > 50 {
					want = api.ErrRange
				}
				second := arc(a, b, mult)
				if e := notation.Check(arcs(3, second)); e != want {
					t.Errorf("%v: the error %d", second, e)
				}
				for _, first := range full(3, 2).Arcs {
					both := want
					if want == api.OK && first.From*3+first.To >= a*3+b {
						both = api.ErrOrder
					}
					if e := notation.Check(arcs(3, first, second)); e != both {
						t.Errorf("%v behind %v: the error %d", second, first, e)
					}
				}
			}
		}
	}
}

func wrongDigraphs() []struct {
	d api.Digraph
	e api.Errno
} {
	return []struct {
		d api.Digraph
		e api.Errno
	}{
		{api.Digraph{}, api.ErrRange}, {arcs(-1), api.ErrRange}, {arcs(13), api.ErrRange}, {arcs(math.MinInt), api.ErrRange}, {arcs(math.MaxInt), api.ErrRange}, {arcs(0, arc(0, 0, 1)), api.ErrRange}, {arcs(13, arc(1, 0, 1), arc(0, 1, 1)), api.ErrRange},
		{arcs(1, arc(0, 1, 1)), api.ErrRange}, {arcs(12, arc(12, 0, 1)), api.ErrRange}, {arcs(3, arc(math.MinInt, 0, 1)), api.ErrRange}, {arcs(3, arc(0, math.MaxInt, 1)), api.ErrRange}, {arcs(3, arc(0, 1, math.MaxInt)), api.ErrRange}, {arcs(3, arc(0, 1, math.MinInt)), api.ErrRange},
		{arcs(3, arc(1, 0, 1), arc(0, 1, 1)), api.ErrOrder}, {arcs(3, arc(0, 1, 1), arc(0, 1, 2)), api.ErrOrder}, {arcs(3, arc(0, 0, 1), arc(2, 1, 1), arc(1, 2, 1)), api.ErrOrder},
		// The first arc with an error counts, and its range first.
		{arcs(3, arc(1, 0, 1), arc(0, 3, 1)), api.ErrRange}, {arcs(3, arc(1, 0, 1), arc(0, 1, 1), arc(0, 3, 1)), api.ErrOrder}, {arcs(3, arc(0, 1, 1), arc(1, 3, 1), arc(0, 1, 1)), api.ErrRange}, {arcs(3, arc(0, 1, 1), arc(0, 1, 0)), api.ErrRange},
		{arcs(12, make([]api.Arc, 5000)...), api.ErrRange}, {arcs(12, slices.Repeat([]api.Arc{arc(3, 2, 4)}, 5000)...), api.ErrOrder},
	}
}

func TestInts(t *testing.T) {
	words, l := lists()
	for i, word := range words {
		want := word + writtenInts(l[i])
		if text, e := notation.Ints(word, l[i]); text != want || e != api.OK {
			t.Errorf("%s %v has the text %q beside the error %d", word, l[i], text, e)
		}
		got, ints, at, e := notation.ReadInts(want)
		if got != word || !slices.Equal(ints, l[i]) || at != 0 || e != api.OK {
			t.Errorf("%q is read as %q with %v, and %d beside the error %d", want, got, ints, at, e)
		}
	}
	longest := strings.Repeat("q", 24)
	for _, x := range []struct {
		word string
		l    []int
		want string
		e    api.Errno
	}{
		{"divisor", []int{1, -2, 0}, "divisor 1 -2 0", api.OK}, {"tree", nil, "tree", api.OK}, {"tree", []int{}, "tree", api.OK}, {"a", []int{0}, "a 0", api.OK}, {longest, []int{1 << 20, -1 << 20}, longest + " 1048576 -1048576", api.OK}, {longest, slices.Repeat([]int{-1 << 20}, 256), longest + strings.Repeat(" -1048576", 256), api.OK},
		{"", nil, "", api.ErrForm}, {"a b", nil, "", api.ErrForm}, {"A", nil, "", api.ErrForm}, {"x2", []int{1}, "", api.ErrForm}, {"é", nil, "", api.ErrForm}, {longest + "q", nil, "", api.ErrLong},
		{"a", make([]int, 256), "a" + strings.Repeat(" 0", 256), api.OK}, {"a", make([]int, 257), "", api.ErrMany}, {"a", make([]int, 5000), "", api.ErrMany},
		{"a", []int{1<<20 + 1}, "", api.ErrRange}, {"a", []int{-1<<20 - 1}, "", api.ErrRange}, {"a", []int{0, 1, math.MaxInt}, "", api.ErrRange}, {"a", []int{math.MinInt, 1}, "", api.ErrRange},
		// The order of the errors.
		{"", make([]int, 257), "", api.ErrForm}, {longest + "q", []int{math.MaxInt}, "", api.ErrLong}, {"a", slices.Repeat([]int{math.MaxInt}, 257), "", api.ErrMany}, {"a", slices.Repeat([]int{math.MaxInt}, 256), "", api.ErrRange},
	} {
		if text, e := notation.Ints(x.word, x.l); text != x.want || e != x.e {
			t.Errorf("%q %.100v has the text %.100q beside the error %d, want %d", x.word, x.l, text, e, x.e)
		}
	}
}

func TestReadInts(t *testing.T) {
	many := "a" + strings.Repeat(" 7", 256)
	for _, x := range []struct {
		text string
		word string
		l    []int
	}{
		{"divisor 1 -2 0", "divisor", []int{1, -2, 0}}, {"tree", "tree", nil}, {"  tree  ", "tree", nil}, {"divisor1-2 0", "divisor", []int{1, -2, 0}}, {" divisor - 2-3- 4 ", "divisor", []int{-2, -3, -4}}, {"a0 0", "a", []int{0, 0}}, {"graph 1048576-1048576", "graph", []int{1 << 20, -1 << 20}}, {many, "a", slices.Repeat([]int{7}, 256)}, {strings.ReplaceAll(many, " ", "-"), "a", slices.Repeat([]int{-7}, 256)},
		{"a 1" + strings.Repeat(" ", 4093), "a", []int{1}}, {strings.Repeat(" ", 4072) + strings.Repeat("q", 24), strings.Repeat("q", 24), nil},
	} {
		word, l, at, e := notation.ReadInts(x.text)
		if word != x.word || !slices.Equal(l, x.l) || at != 0 || e != api.OK {
			t.Errorf("%.100q is read as %q with %v, and %d beside the error %d", x.text, word, l, at, e)
		}
	}
	for _, x := range []struct {
		text string
		at   int
		e    api.Errno
	}{
		{"", 0, api.ErrSyntax}, {"   ", 3, api.ErrSyntax}, {"5", 0, api.ErrSyntax}, {" -5", 1, api.ErrSyntax}, {"a b", 2, api.ErrSyntax}, {"a 1 b", 4, api.ErrSyntax}, {"a 1, 2", 3, api.ErrSyntax}, {"a +1", 2, api.ErrSyntax}, {"a:", 1, api.ErrSyntax},
		// A sign can stand there, but nothing behind it but a number other than 0.
		{"e-", 2, api.ErrSyntax}, {"a -", 3, api.ErrSyntax}, {"a -  ", 5, api.ErrSyntax}, {"a -0", 3, api.ErrSyntax}, {"a 5 - 0", 6, api.ErrSyntax}, {"a -0 1", 3, api.ErrSyntax}, {"a -b", 3, api.ErrSyntax}, {"a - b 1048577", 4, api.ErrSyntax}, {"a --1", 3, api.ErrSyntax}, {"a - -1", 4, api.ErrSyntax}, {"a ---", 3, api.ErrSyntax}, {"a -,", 3, api.ErrSyntax}, {"a 1-+2", 4, api.ErrSyntax}, {"a -1-0", 5, api.ErrSyntax}, {"-", 0, api.ErrSyntax}, {"-a", 0, api.ErrSyntax}, {"a +-1", 2, api.ErrSyntax},
		{"a 1048577", 2, api.ErrRange}, {"a 5 -1048577", 4, api.ErrRange}, {"a - 1048577 b", 2, api.ErrRange}, {"a 1099511627777", 2, api.ErrRange}, {"a -99999999999999999999", 2, api.ErrRange}, {"a " + strings.Repeat("9", 1024), 2, api.ErrRange}, {"a 1048577 b", 2, api.ErrRange}, {"a b 1048577", 2, api.ErrSyntax},
		{many + " 0", 514, api.ErrMany}, {many + "-  5", 513, api.ErrMany}, {many + " 8 b", 514, api.ErrMany}, {many + " b", 514, api.ErrSyntax}, {many + " 1048577", 514, api.ErrRange}, {many + " -", 515, api.ErrSyntax}, {many + " - 0", 516, api.ErrSyntax}, {many + " -1048577", 514, api.ErrRange},
		// The errors of the lexer come first, wherever they are.
		{"5 ?", 2, api.ErrSyntax}, {"5 007", 2, api.ErrForm}, {"a b " + strings.Repeat("q", 25), 4, api.ErrLong}, {"a -" + strings.Repeat("9", 1025), 3, api.ErrLarge}, {"?" + strings.Repeat(" ", 4096), 0, api.ErrLong}, {"a" + strings.Repeat(" ", 4096), 0, api.ErrLong}, {"A", 0, api.ErrSyntax},
	} {
		word, l, at, e := notation.ReadInts(x.text)
		if word != "" || len(l) > 0 || at != x.at || e != x.e {
			t.Errorf("%.100q is read as %q with %v, and %d beside the error %d, want %d beside %d", x.text, word, l, at, e, x.at, x.e)
		}
	}
}
