package notation_test

import (
	"fmt"
	"math"
	"math/rand"
	"slices"
	"strings"
	"testing"

	"sandpile/api"
	"sandpile/notation"
)

// Tests of P9.3, and of P1 for package notation.

func TestWrittenIsRead(t *testing.T) {
	for _, g := range graphs() {
		text, e := notation.Graph(g)
		got, at, f := notation.ReadGraph(text)
		if e != api.OK || !sameGraph(got, g) || at != 0 || f != api.OK {
			t.Errorf("%v is written as %q, and read as %v", g, text, got)
		}
	}
	for _, d := range digraphs() {
		text, e := notation.Digraph(d)
		got, at, f := notation.ReadDigraph(text)
		if e != api.OK || !sameDigraph(got, d) || at != 0 || f != api.OK {
			t.Errorf("%v is written as %q, and read as %v", d, text, got)
		}
	}
	for _, r := range ribbonGraphs() {
		text, e := notation.Ribbon(r)
		got, at, f := notation.ReadRibbon(text)
		if e != api.OK || !sameRibbon(got, r) || at != 0 || f != api.OK {
			t.Errorf("%v is written as %q, and read as %v", r, text, got)
		}
	}
	words, l := lists()
	for i, word := range words {
		text, e := notation.Ints(word, l[i])
		got, ints, at, f := notation.ReadInts(text)
		if e != api.OK || got != word || !slices.Equal(ints, l[i]) || at != 0 || f != api.OK {
			t.Errorf("%s %v is written as %q, and read as %s %v", word, l[i], text, got, ints)
		}
	}
}

// again writes what is read from a text, for each notation.
func again(kind, text string) (string, api.Errno) {
	write := func(s string, e, f api.Errno) (string, api.Errno) {
		if e == api.OK && f != api.OK {
			return fmt.Sprintf("not written, with the error %d", f), api.OK
		}
		return s, e
	}
	switch kind {
	case "graph":
		g, _, e := notation.ReadGraph(text)
		s, f := notation.Graph(g)
		return write(s, e, f)
	case "digraph":
		d, _, e := notation.ReadDigraph(text)
		s, f := notation.Digraph(d)
		return write(s, e, f)
	case "ribbon":
		r, _, e := notation.ReadRibbon(text)
		s, f := notation.Ribbon(r)
		return write(s, e, f)
	}
	word, l, _, e := notation.ReadInts(text)
	s, f := notation.Ints(word, l)
	return write(s, e, f)
}

// TestNormalTexts writes what is read: this is a normal text, which is its own one.
func TestNormalTexts(t *testing.T) {
	r := rand.New(rand.NewSource(6))
	check := func(kind, text, want string) {
		for _, s := range []string{text, blank(r, text), want} {
			if normal, e := again(kind, s); normal != want || e != api.OK {
				t.Errorf("%.200q has the normal text %.200q beside the error %d, want %.200q", s, normal, e, want)
			}
		}
	}
	for _, g := range graphs() {
		if len(g.Edges) < 50 {
			check("graph", written("graph", "-", g.N, split(r, arcsOf(g), true)), written("graph", "-", g.N, arcsOf(g)))
		}
	}
	for _, d := range digraphs() {
		if len(d.Arcs) < 50 {
			check("digraph", written("digraph", ">", d.N, split(r, d.Arcs, false)), written("digraph", ">", d.N, d.Arcs))
		}
	}
	for _, x := range ribbonGraphs() {
		text := writtenRibbon(x)
		check("ribbon", text, text)
	}
	words, l := lists()
	for i, word := range words {
		text := word + writtenInts(l[i])
		check("", text, text)
	}
}

// blank returns the text with other blanks between tokens, as long as it does not become too long.
func blank(r *rand.Rand, text string) string {
	var s strings.Builder
	for i := range len(text) {
		c := text[i]
		isSign := func(i int) bool { return i >= 0 && i < len(text) && strings.IndexByte("->*:;/", text[i]) >= 0 }
		if c == ' ' && (isSign(i-1) || isSign(i+1)) && r.Intn(2) == 0 {
			continue
		}
		if isSign(i) && len(text) < 1000 {
			s.WriteString(strings.Repeat(" ", r.Intn(2)) + string(c) + strings.Repeat(" ", r.Intn(2)))
			continue
		}
		s.WriteByte(c)
	}
	return s.String()
}

// TestAnyOrder reads edges in any order, several times, and with their ends exchanged.
func TestAnyOrder(t *testing.T) {
	r := rand.New(rand.NewSource(7))
	for i := range 3000 {
		n := 1 + r.Intn(api.MaxVertices)
		var l []api.Arc
		for range r.Intn(40) {
			l = append(l, arc(r.Intn(n), r.Intn(n), 1+r.Intn([]int{1, 3, 10}[i%3])))
		}
		sums := map[[2]int]int{}
		for _, x := range l {
			sums[[2]int{min(x.From, x.To), max(x.From, x.To)}] += x.Mult
		}
		text := written("graph", "-", n, l)
		g, at, e := notation.ReadGraph(text)
		if slices.ContainsFunc(l, func(x api.Arc) bool { return sums[[2]int{min(x.From, x.To), max(x.From, x.To)}] > api.MaxMult }) {
			if e != api.ErrMany {
				t.Errorf("%q has the error %d", text, e)
			}
			continue
		}
		if !sameGraph(g, made(t, n, l)) || at != 0 || e != api.OK {
			t.Errorf("%q is read as %v, and %d beside the error %d", text, g, at, e)
		}
	}
}

// TestArcsInAnyOrder reads arcs in any order, and several times.
func TestArcsInAnyOrder(t *testing.T) {
	r := rand.New(rand.NewSource(8))
	for _, d := range digraphs() {
		if len(d.Arcs) > 60 {
			continue
		}
		l := split(r, d.Arcs, false)
		text := written("digraph", ">", d.N, l)
		got, at, e := notation.ReadDigraph(text)
		if !sameDigraph(got, d) || at != 0 || e != api.OK {
			t.Errorf("%q is read as %v, and %d beside the error %d", text, got, at, e)
		}
	}
}

// TestTotal calls every function with all kinds of arguments: a panic fails the test, and beside an error everything is zero, but for an offset.
func TestTotal(t *testing.T) {
	r := rand.New(rand.NewSource(9))
	ints := []int{math.MinInt, -1 << 20, -1, 0, 0, 1, 1, 2, 3, 11, 12, 13, 50, 51, 1 << 20, math.MaxInt}
	some := func() int { return ints[r.Intn(len(ints))] }
	for range 20000 {
		g, d := edges(some()), arcs(some())
		for range r.Intn(4) {
			g.Edges = append(g.Edges, edge(some(), some(), some()))
			d.Arcs = append(d.Arcs, arc(some(), some(), some()))
		}
		var l [][]int
		for range r.Intn(4) {
			l = append(l, []int{some(), some(), some()}[:r.Intn(4)])
		}
		for _, write := range []func() (string, api.Errno){
			func() (string, api.Errno) { return notation.Graph(g) },
			func() (string, api.Errno) { return notation.Digraph(d) },
			func() (string, api.Errno) { return notation.Ribbon(around(g, l...)) },
			func() (string, api.Errno) {
				return notation.Ints([]string{"a", "", "A"}[r.Intn(3)], slices.Concat(l...))
			},
		} {
			if text, e := write(); (text == "") != (e != api.OK) || len(text) > api.MaxText {
				t.Errorf("the text %q beside the error %d", text, e)
			}
		}
	}
	for range 20000 {
		total(t, strange(r))
	}
	for _, n := range []int{4095, 4096, 4097, 100000} {
		for _, s := range []string{" ", "a", "9", "-", "a ", "/", "graph 1:", "\xff"} {
			for _, head := range []string{"", "a ", "graph 2:", "digraph 2:0>1 ", "ribbon 2:;", "ribbon 2:0-1;"} {
				total(t, head+strings.Repeat(s, n/len(s)))
			}
		}
	}
}

// total reads a text in every notation.
func total(t *testing.T, text string) {
	t.Helper()
	word, l, i, a := notation.ReadInts(text)
	g, j, b := notation.ReadGraph(text)
	d, k, c := notation.ReadDigraph(text)
	q, m, f := notation.ReadRibbon(text)
	right := []bool{a == api.OK || word == "" && len(l) == 0, b == api.OK || sameGraph(g, api.Graph{}), c == api.OK || sameDigraph(d, api.Digraph{}), f == api.OK || sameRibbon(q, api.Ribbon{})}
	for n, at := range []int{i, j, k, m} {
		e := []api.Errno{a, b, c, f}[n]
		if !right[n] || at < 0 || at > len(text) || at > 0 && e == api.OK {
			t.Errorf("%.100q has %d beside the error %d in the notation %d", text, at, e, n)
		}
	}
}

// strange returns a text of tokens, or of bytes.
func strange(r *rand.Rand) string {
	pool := []string{"graph", "digraph", "ribbon", "a", "0", "1", "2", "12", "50", "007", "1048577", " ", " ", "-", "-", ">", ">", "*", "*", ":", ":", ";", ";", "/", "/", "(", "?", "\x00", "é", "99999999999999999999"}
	var s strings.Builder
	if r.Intn(2) == 0 {
		s.WriteString([]string{"graph 3:", "digraph 3:", "ribbon 3:", "ribbon 2:0-1;", "divisor"}[r.Intn(5)])
	}
	for range r.Intn(12) {
		s.WriteString(pool[r.Intn(len(pool))])
	}
	return s.String()
}

// TestMemory changes results, and looks at the arguments and at other results.
func TestMemory(t *testing.T) {
	// The arguments have spare capacity, in which nothing may be written either.
	g := edges(2, append(make([]api.Edge, 0, 9), edge(0, 1, 2))...)
	d := arcs(2, append(make([]api.Arc, 0, 9), arc(1, 0, 2))...)
	l := append(make([]int, 0, 9), 0, 2)
	q := around(g, append(make([][]int, 0, 9), l, []int{3, 1})...)
	for range 2 {
		notation.Check(d)
		notation.Ints("a", l)
		notation.Graph(g)
		notation.Digraph(d)
		notation.Ribbon(q)
	}
	if !slices.Equal(g.Edges[:9], append([]api.Edge{edge(0, 1, 2)}, make([]api.Edge, 8)...)) || !slices.Equal(d.Arcs[:9], append([]api.Arc{arc(1, 0, 2)}, make([]api.Arc, 8)...)) || !slices.Equal(l[:9], append([]int{0, 2}, make([]int, 7)...)) || q.Around[:3][2] != nil {
		t.Errorf("the arguments are now %v, %v, %v and %v", g.Edges[:9], d.Arcs[:9], l[:9], q.Around[:9])
	}
	read := func() []any {
		_, ints, _, _ := notation.ReadInts("a 1 2 3")
		g, _, _ := notation.ReadGraph("graph 3: 0-1 1-2")
		d, _, _ := notation.ReadDigraph("digraph 3: 1>0 2>1")
		r, _, _ := notation.ReadRibbon("ribbon 3: 0-1 1-2 ; 0 / 1 2 / 3")
		return []any{ints, g.Edges, d.Arcs, r.Graph.Edges, r.Around[0], r.Around[1], r.Around[2], r.Around}
	}
	first, second := read(), read()
	before := fmt.Sprint(second)
	for i, x := range first {
		// The lists of a ribbon graph are looked at one by one, and then all of them are changed.
		others := first[min(i+1, 7):7]
		rest := fmt.Sprint(others)
		switch x := x.(type) {
		case []int:
			x[0] = 9
			_ = append(x, 9, 9, 9)
		case []api.Edge:
			x[0] = edge(9, 9, 9)
			_ = append(x, edge(9, 9, 9))
		case []api.Arc:
			x[0] = arc(9, 9, 9)
			_ = append(x, arc(9, 9, 9))
		case [][]int:
			x[0] = nil
			_ = append(x, []int{9})
		}
		if fmt.Sprint(others) != rest {
			t.Errorf("%v changes with %v", others, x)
		}
	}
	if now := fmt.Sprint(second); now != before || fmt.Sprint(read()) != before {
		t.Errorf("%s changes to %s with another result", before, now)
	}
}
