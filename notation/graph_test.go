package notation_test

import (
	"math/rand"
	"slices"
	"strings"
	"testing"

	"sandpile/api"
	"sandpile/notation"
)

// Tests of P9.1: graphs.

func TestGraph(t *testing.T) {
	for _, g := range graphs() {
		want := written("graph", "-", g.N, arcsOf(g))
		if text, e := notation.Graph(g); text != want || e != api.OK {
			t.Errorf("%v has the text %q beside the error %d", g, text, e)
		}
		if got, at, e := notation.ReadGraph(want); !sameGraph(got, g) || at != 0 || e != api.OK {
			t.Errorf("%q is read as %v, and %d beside the error %d", want, got, at, e)
		}
	}
	for _, x := range []struct {
		g    api.Graph
		want string
	}{
		{edges(1), "graph 1:"}, {edges(12), "graph 12:"}, {edges(1, edge(0, 0, 1)), "graph 1: 0-0"}, {edges(3, edge(0, 2, 2), edge(1, 1, 2)), "graph 3: 0-2*2 1-1*2"}, {edges(12, edge(0, 11, 50), edge(10, 11, 1), edge(11, 11, 2)), "graph 12: 0-11*50 10-11 11-11*2"},
	} {
		if text, e := notation.Graph(x.g); text != x.want || e != api.OK {
			t.Errorf("%v has the text %q beside the error %d", x.g, text, e)
		}
	}
	for _, x := range wrongGraphs() {
		if text, e := notation.Graph(x.g); text != "" || e != x.e {
			t.Errorf("%.100v has the text %q beside the error %d, want %d", x.g, text, e, x.e)
		}
	}
}

func TestReadGraph(t *testing.T) {
	full := "graph 2:" + strings.Repeat("1-0", 50)
	for _, x := range []struct {
		text string
		want api.Graph
	}{
		{"graph 3: 2-0 1-1*2 0-2", edges(3, edge(0, 2, 2), edge(1, 1, 2))}, {"graph 1:", edges(1)}, {"graph1:", edges(1)}, {"  graph  12 :  ", edges(12)}, {"graph 12: 11-0", edges(12, edge(0, 11, 1))}, {"graph 3:0-1 1-2", edges(3, edge(0, 1, 1), edge(1, 2, 1))}, {"graph 3: 2 - 1 * 3 1 - 2", edges(3, edge(1, 2, 4))}, {"graph 3: 1-2 0-0*1 0-1*1 0-1", edges(3, edge(0, 0, 1), edge(0, 1, 2), edge(1, 2, 1))},
		// Mults that add up to MaxMult, in both orders of the ends.
		{"graph 2: 0-1*50", edges(2, edge(0, 1, 50))}, {"graph 2: 0-1*25 1-0*24 0-1", edges(2, edge(0, 1, 50))}, {"graph 1: 0-0*49 0-0", edges(1, edge(0, 0, 50))}, {strings.ReplaceAll(full, "01-", "0 1-"), edges(2, edge(0, 1, 50))}, {"graph 1: 0-0" + strings.Repeat(" ", 4084), edges(1, edge(0, 0, 1))},
	} {
		if got, at, e := notation.ReadGraph(x.text); !sameGraph(got, x.want) || at != 0 || e != api.OK {
			t.Errorf("%.100q is read as %v, and %d beside the error %d", x.text, got, at, e)
		}
	}
}

// refusal is a text that cannot be read.
type refusal struct {
	text string
	at   int
	e    api.Errno
}

func TestReadGraphErrors(t *testing.T) {
	for _, x := range []refusal{
		{"", 0, api.ErrSyntax}, {"  ", 2, api.ErrSyntax}, {"digraph 2: 0>1", 0, api.ErrSyntax}, {"graphs 2:", 0, api.ErrSyntax}, {" 2:", 1, api.ErrSyntax}, {"graph", 5, api.ErrSyntax}, {"graph :", 6, api.ErrSyntax}, {"graph x:", 6, api.ErrSyntax}, {"graph -2:", 6, api.ErrSyntax}, {"graph 2", 7, api.ErrSyntax}, {"graph 2; 0-1", 7, api.ErrSyntax}, {"graph 2 0-1", 8, api.ErrSyntax},
		{"graph 0:", 6, api.ErrRange}, {"graph 13:", 6, api.ErrRange}, {"graph 99999999999999999999 x", 6, api.ErrRange}, {"graph 13 x", 6, api.ErrRange}, {"graph 13: 0-x", 6, api.ErrRange},
		{"graph 2: 0-2", 11, api.ErrRange}, {"graph 2: 2-0", 9, api.ErrRange}, {"graph 12: 11-12", 13, api.ErrRange}, {"graph 2: 2-x", 9, api.ErrRange}, {"graph 2: 2 x", 9, api.ErrRange}, {"graph 2: 0-99999999999999999999", 11, api.ErrRange}, {"graph 1: 0-1", 11, api.ErrRange}, {"graph 2: 0-1 5-6", 13, api.ErrRange},
		{"graph 2: 0-1*0", 13, api.ErrRange}, {"graph 2: 0-1*51", 13, api.ErrRange}, {"graph 2: 0-1*99999999999999999999", 13, api.ErrRange}, {"graph 2: 0-1*-1", 13, api.ErrSyntax}, {"graph 2: 0-1*", 13, api.ErrSyntax}, {"graph 2: 0-1*x", 13, api.ErrSyntax}, {"graph 2: 0-1*2*3", 14, api.ErrSyntax},
		{"graph 2: 0", 10, api.ErrSyntax}, {"graph 2: 0-", 11, api.ErrSyntax}, {"graph 2: 0>1", 10, api.ErrSyntax}, {"graph 2: 0 1", 11, api.ErrSyntax}, {"graph 2: 0--1", 11, api.ErrSyntax}, {"graph 2: -0-1", 9, api.ErrSyntax}, {"graph 2: 0-1 1", 14, api.ErrSyntax}, {"graph 2: 0-1, 1-1", 12, api.ErrSyntax}, {"graph 2: 0-1 x", 13, api.ErrSyntax}, {"graph 2: 0-1 ;", 13, api.ErrSyntax}, {"graph 2: 0-1 graph 2:", 13, api.ErrSyntax}, {"graph 2: 0-1 *", 14, api.ErrSyntax},
		// Mults that add up to more: behind the whole edge, at its first vertex.
		{"graph 2: 0-1*50 0-1", 16, api.ErrMany}, {"graph 2: 0-1*50 1-0", 16, api.ErrMany}, {"graph 2: 0-1*25 1-0*25 0-0 1-0*1", 27, api.ErrMany}, {"graph 1: 0-0*26 0-0*25", 16, api.ErrMany}, {"graph 2: 0-1*50 1-0 x", 16, api.ErrMany}, {"graph 2: 0-1*50 1-0 7-8", 16, api.ErrMany}, {"graph 2: 0-1*50 1-0*51", 20, api.ErrRange}, {"graph 2: 0-1*50 1-0*x", 20, api.ErrSyntax}, {"graph 2: 0-1*50 1-2", 18, api.ErrRange}, {"graph 2: 0-1*50 1x", 17, api.ErrSyntax},
		// The errors of the lexer come first, wherever they are.
		{"graph 13: ?", 10, api.ErrSyntax}, {"x 007", 2, api.ErrForm}, {"graph 2: 0-02", 11, api.ErrForm}, {"graph 0: " + strings.Repeat("q", 25), 9, api.ErrLong}, {"graph 0: " + strings.Repeat("1", 1025), 9, api.ErrLarge}, {"graph 1:" + strings.Repeat(" ", 4089), 0, api.ErrLong}, {"graph 2;" + strings.Repeat(" ", 4088), 7, api.ErrSyntax},
	} {
		if got, at, e := notation.ReadGraph(x.text); !sameGraph(got, api.Graph{}) || at != x.at || e != x.e {
			t.Errorf("%.100q is read as %v, and %d beside the error %d, want %d beside %d", x.text, got, at, e, x.at, x.e)
		}
	}
}

// TestReadDefaced changes right texts a bit, and compares what is read with the oracle.
func TestReadDefaced(t *testing.T) {
	r := rand.New(rand.NewSource(5))
	words, ints := lists()
	ds, gs, rs := digraphs(), graphs(), ribbonGraphs()
	errors := map[api.Errno]int{}
	for i := range 30000 {
		kind := []string{"", "graph", "digraph", "ribbon"}[i%4]
		var text string
		switch kind {
		case "":
			k := r.Intn(len(words))
			text = words[k] + writtenInts(ints[k])
		case "graph":
			g := gs[r.Intn(len(gs))]
			text = written(kind, "-", g.N, split(r, few(r, arcsOf(g)), true))
		case "digraph":
			d := ds[r.Intn(len(ds))]
			text = written(kind, ">", d.N, split(r, few(r, d.Arcs), false))
		case "ribbon":
			text = writtenRibbon(rs[r.Intn(len(rs))])
		}
		text = defaced(r, text)
		wantAt, want := expected(kind, text)
		var at int
		var e api.Errno
		switch kind {
		case "":
			_, _, at, e = notation.ReadInts(text)
		case "graph":
			_, at, e = notation.ReadGraph(text)
		case "digraph":
			_, at, e = notation.ReadDigraph(text)
		case "ribbon":
			_, at, e = notation.ReadRibbon(text)
		}
		if at != wantAt || e != want {
			t.Errorf("%.300q is read with %d and the error %d, want %d and %d", text, at, e, wantAt, want)
		}
		errors[e]++
	}
	for _, e := range []api.Errno{api.OK, api.ErrSyntax, api.ErrRange, api.ErrMany, api.ErrOrder, api.ErrShape} {
		if errors[e] < 50 {
			t.Errorf("only %d texts have the error %d", errors[e], e)
		}
	}
}

// few returns some of the arcs, so that texts stay short.
func few(r *rand.Rand, l []api.Arc) []api.Arc {
	if len(l) > 10 {
		return l[:r.Intn(10)]
	}
	return l
}

// defaced returns a text in which some tokens are left out, exchanged or written again.
func defaced(r *rand.Rand, text string) string {
	pool := []string{"0", "1", "2", "3", "11", "12", "13", "49", "50", "51", "1048576", "1048577", "99999999999999", "graph", "digraph", "ribbon", "a", "-", "-", ">", "*", "*", ":", ";", "/", "/", ","}
	var tokens []string
	for _, c := range []string{"-", ">", "*", ":", ";", "/"} {
		text = strings.ReplaceAll(text, c, " "+c+" ")
	}
	tokens = strings.Fields(text)
	for range r.Intn(4) {
		at := r.Intn(len(tokens) + 1)
		end := min(at+r.Intn(3), len(tokens))
		switch r.Intn(4) {
		case 0:
			tokens = slices.Delete(tokens, at, end)
		case 1:
			tokens = slices.Insert(tokens, at, pool[r.Intn(len(pool))])
		case 2:
			tokens = slices.Replace(tokens, at, end, pool[r.Intn(len(pool))])
		case 3:
			to := r.Intn(len(tokens) + 1)
			tokens = slices.Insert(tokens, to, slices.Clone(tokens[at:end])...)
		}
	}
	return strings.Repeat(" ", r.Intn(3)) + strings.Join(tokens, strings.Repeat(" ", 1+r.Intn(2))) + strings.Repeat(" ", r.Intn(2))
}
