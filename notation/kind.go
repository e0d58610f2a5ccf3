package notation

import (
	"cmp"
	"slices"
	"strconv"
	"strings"

	"sandpile/api"
)

// kind is a sort of graphs, by the edges that they have. An edge stands here as the arc from its A to its B.
type kind struct {
	word    string // at the beginning of the text
	between string // the sign between two vertices
	// add puts an edge into a list of those before, or says why it cannot.
	add func(l []api.Arc, x api.Arc) ([]api.Arc, api.Errno)
}

func graphs() kind { return kind{word: "graph", between: "-", add: addEdge} }

func digraphs() kind { return kind{word: "digraph", between: ">", add: addArc} }

func ribbons() kind { return kind{word: "ribbon", between: "-", add: addBehind} }

// addEdge adds an edge, which may have its ends in either order.
func addEdge(l []api.Arc, x api.Arc) ([]api.Arc, api.Errno) {
	return addArc(l, api.Arc{From: min(x.From, x.To), To: max(x.From, x.To), Mult: x.Mult})
}

// addArc adds an arc at its place in the order, or to the same one that is there.
func addArc(l []api.Arc, x api.Arc) ([]api.Arc, api.Errno) {
	i, found := slices.BinarySearchFunc(l, x, compare)
	if !found {
		return slices.Insert(l, i, x), api.OK
	}
	if l[i].Mult+x.Mult > api.MaxMult {
		return l, api.ErrMany
	}
	l[i].Mult += x.Mult
	return l, api.OK
}

// addBehind adds an edge that has to be in the normal order, as its half-edges are numbered by it.
func addBehind(l []api.Arc, x api.Arc) ([]api.Arc, api.Errno) {
	if x.From > x.To || len(l) > 0 && compare(l[len(l)-1], x) >= 0 {
		return l, api.ErrOrder
	}
	return append(l, x), api.OK
}

// compare compares arcs by both vertices.
func compare(x, y api.Arc) int {
	return cmp.Or(cmp.Compare(x.From, y.From), cmp.Compare(x.To, y.To))
}

// text returns the word, the number of vertices, and the edges.
func (k kind) text(n int, l []api.Arc) string {
	var text strings.Builder
	text.WriteString(k.word + " " + strconv.Itoa(n) + ":")
	for _, x := range l {
		text.WriteString(" " + strconv.Itoa(x.From) + k.between + strconv.Itoa(x.To))
		if x.Mult > 1 {
			text.WriteString("*" + strconv.Itoa(x.Mult))
		}
	}
	return text.String()
}

// arcsOf returns the edges of a graph as arcs.
func arcsOf(g api.Graph) []api.Arc {
	var l []api.Arc
	for _, edge := range g.Edges {
		l = append(l, api.Arc{From: edge.A, To: edge.B, Mult: edge.Mult})
	}
	return l
}
